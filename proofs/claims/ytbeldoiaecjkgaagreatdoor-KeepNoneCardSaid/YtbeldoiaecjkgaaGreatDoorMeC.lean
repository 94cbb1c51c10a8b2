/- EvG, EvH, EvI, EvJ, EvK, EvL. -/
import Derived.Test.YtbeldoiaecjkgaaGreatDoorMeB
import Derived.Laws.Cells
import Derived.WalkSmall
section
namespace Ev
open Go Go.RowKit
set_option linter.unusedVariables false
set_option linter.unusedSimpArgs false
theorem cellsK_eq {z : Z} {t : Ce} : ∀ {n o : Nat} {k : List V → R}, cellsK z t n o k = k ((List.range n).map fun j => cell z t (o + j))
  | 0, o, k => rfl
  | n + 1, o, k => by
    show fV (cell z t o) (fun v => fN (Nat.add o 1) fun o => cellsK z t n o fun l => k (v :: l)) = _
    rw [fV_eq, fN_eq, cellsK_eq]
    congr 1
    rw [List.range_succ_eq_map]
    simp only [List.map_cons, List.map_map, Nat.add_zero, List.cons.injEq, true_and]
    refine List.map_congr_left fun j _ => ?_
    show cell z t (o + 1 + j) = cell z t (o + (j + 1))
    congr 1; omega
/-- cells laid from o on -/
noncomputable def Ce.sets (t : Ce) (o : Nat) : List V → Ce
  | [] => t
  | v :: l => (t.set o v).sets (o + 1) l
theorem Ce.cap_sets : ∀ (l : List V) (t : Ce) (o : Nat), (t.sets o l).cap = t.cap
  | [], _, _ => rfl
  | v :: l, t, o => (Ce.cap_sets l _ _).trans (Ce.cap_set t o v)
theorem cget_sets : ∀ (l : List V) (t : Ce) (o i : Nat), o + l.length ≤ t.cap → i < t.cap → cget (t.sets o l) i = if o ≤ i ∧ i < o + l.length then l.getD (i - o) .u else cget t i
  | [], t, o, i, _, _ => by rw [if_neg (by simp)]; rfl
  | v :: l, t, o, i, h, hi => by
    simp only [List.length_cons] at h
    show cget ((t.set o v).sets (o + 1) l) i = _
    rw [cget_sets l _ _ _ (by rw [Ce.cap_set]; omega) (by rw [Ce.cap_set]; omega)]
    by_cases h1 : i = o
    · subst h1
      rw [if_neg (by omega), cget_set v t (by omega) hi, if_pos rfl, if_pos (by simp)]
      simp
    · by_cases h2 : o ≤ i ∧ i < o + (v :: l).length
      · simp only [List.length_cons] at h2
        rw [if_pos (by omega), if_pos (by simp only [List.length_cons]; omega), show i - o = (i - (o + 1)) + 1 by omega]
        simp
      · simp only [List.length_cons] at h2
        rw [if_neg (by omega), if_neg (by simp only [List.length_cons]; omega), cget_set v t (by omega) hi, if_neg h1]
theorem upN_ex {α : Type} (v : α) (t : A6 α) (n : Nat) : ∃ t', ∀ k, upN n v t k = k t' := by
  cases t
  by_cases h : n < 16
  · exact ⟨_, fun k => upN_s _ v k h⟩
  · obtain ⟨m, rfl⟩ : ∃ m, n = m + 15 := ⟨n - 15, by omega⟩
    exact ⟨_, fun k => rfl⟩
theorem cset_ex (v : V) (t : Ce) (o : Nat) : ∃ t' : Ce, t'.cap = t.cap ∧ (o < t.cap → t' = t.set o v) ∧ ∀ k, cset v t o k = k t' := by
  by_cases h : o < t.cap
  · exact ⟨t.set o v, Ce.cap_set _ _ _, fun _ => rfl, fun k => cset_eq v t k h⟩
  · cases t with
    | b u => exact ⟨.b (c3s u o v), rfl, fun hh => absurd hh h, fun k => c3set_eq v u o _⟩
    | s u =>
      obtain ⟨u', hu⟩ := upN_ex v u o
      exact ⟨.s u', rfl, fun hh => absurd hh h, fun k => hu _⟩
theorem stK_fin : ∀ {l : List V} {t : Ce} {o : Nat} {k : Ce → R} {v : V} {h : HP} {c : Nat}, stK l t o k = .fin v h c → ∃ t', k t' = .fin v h c ∧ (∀ v ∈ l, is1 v = true) ∧ t'.cap = t.cap ∧ (o + l.length ≤ t.cap → t' = t.sets o l)
  | [], t, o, k, v, h, c, H => ⟨t, H, by simp, rfl, fun _ => rfl⟩
  | x :: l, t, o, k, v, h, c, H => by
    have H' : ifT (is1 x) (cset x t o fun t => fN (Nat.add o 1) fun o => stK l t o k) (.bad 12) = .fin v h c := H
    obtain ⟨h1, h2⟩ := ifT_fin H'
    obtain ⟨t1, g1, g2, g3⟩ := cset_ex x t o
    rw [g3, fN_eq] at h2
    obtain ⟨t', h3, h4, h6, h5⟩ := stK_fin (l := l) h2
    refine ⟨t', h3, by simpa [h1] using h4, h6.trans g1, fun hc => ?_⟩
    simp only [List.length_cons] at hc
    rw [h5 (by rw [g1]; show o + 1 + l.length ≤ _; omega), g2 (by omega)]
    rfl
/-- the cells of a row -/
def CR (ρ : Rho) (z : Z) (t : Ce) (n : Nat) (cs : Array Value) : Prop := ∀ i, i < n → ∃ v, cs[i]? = some v ∧ den ρ (cell z t i) = some v
theorem CR.mono {ρ ρ' : Rho} {z : Z} {t : Ce} {n : Nat} {cs : Array Value} (h : CR ρ z t n cs) (k : Le ρ ρ') : CR ρ' z t n cs := fun i hi => let ⟨v, a, b⟩ := h i hi; ⟨v, a, den_mono k _ b⟩
theorem orD_is1 {v : V} {z : Z} {o : Nat} (h : is1 v = true) : orD v z o = v := by cases v <;> first | rfl | exact Bool.noConfusion h
/-- cells laid over a row's -/
theorem CR.sets {ρ : Rho} {z : Z} {t : Ce} {n m o : Nat} {cs cs' : Array Value} {l : List V} {vs : List Value} (h : CR ρ z t n cs) (hl : denL ρ l = some vs) (h1 : ∀ v ∈ l, is1 v = true) (hcap : o + l.length ≤ t.cap) (hm : m ≤ t.cap)
    (hs : ∀ i, i < m → if o ≤ i ∧ i < o + l.length then cs'[i]? = vs[i - o]? else i < n ∧ cs'[i]? = cs[i]?) : CR ρ z (t.sets o l) m cs' := by
  intro i hi
  have e := cget_sets l t o i hcap (by omega)
  have hsi := hs i hi
  unfold cell
  rw [e]
  split at hsi
  · rename_i hin
    rw [if_pos hin]
    have hlt : i - o < l.length := by omega
    have hget : l[i - o]? = some l[i - o] := List.getElem?_eq_getElem hlt
    obtain ⟨x, hx, hd⟩ := denL_get hl hget
    have hD : l.getD (i - o) V.u = l[i - o] := by simp [List.getD, hget]
    rw [hD, orD_is1 (h1 _ (List.getElem_mem _))]
    exact ⟨x, hsi.trans hx, hd⟩
  · rename_i hout
    rw [if_neg hout]
    obtain ⟨v, a, b⟩ := h i hsi.1
    exact ⟨v, hsi.2.trans a, b⟩
theorem CR.load {ρ : Rho} {z : Z} {t : Ce} {n : Nat} {cs : Array Value} (h : CR ρ z t n cs) : ∀ (k o : Nat), o + k ≤ n → denL ρ ((List.range k).map fun j => cell z t (o + j)) = some ((cs.toList.drop o).take k)
  | 0, _, _ => by simp [denL]
  | k + 1, o, hk => by
    obtain ⟨v, a, b⟩ := h o (by omega)
    have ih := CR.load h k (o + 1) (by omega)
    rw [List.range_succ_eq_map]
    simp only [List.map_cons, List.map_map, Nat.add_zero]
    have hsz : o < cs.toList.length := by
      have := (Array.getElem?_eq_some_iff.1 a).1; simpa using this
    have hd : cs.toList.drop o = v :: cs.toList.drop (o + 1) := by
      rw [List.drop_eq_getElem_cons hsz]
      congr 1
      have := (Array.getElem?_eq_some_iff.1 a).2
      simpa using this
    rw [hd]
    rw [List.take_succ_cons]
    refine denL_cons.2 ⟨v, _, rfl, b, ?_⟩
    have e : (List.map ((fun j => cell z t (o + j)) ∘ Nat.succ) (List.range k)) = (List.range k).map fun j => cell z t (o + 1 + j) :=
      List.map_congr_left fun j _ => by show cell z t (o + (j + 1)) = _; congr 1; omega
    rw [e]; exact ih
section
variable {X : Spx} {P : Program} {w0 : Base} {w : World} {ρ : Rho} {h : HP} {c : Nat}
/-- cells read -/
theorem HR.cell (H : HR X P w0 ρ h c w) {a ty n q o : Nat} {z : Z} {t : Ce} {p : Nat × Nat} (ha : ρ a = some p) (e : hget h a = .c ty n q z t) (ho : o < n) : ∃ v, w.cell? ⟨p.1, o, none⟩ = some v ∧ den ρ (Ev.cell z t o) = some v := by
  obtain ⟨cs, h1, _, _, _, _, h2⟩ := H.row ha e
  obtain ⟨v, h3, h4⟩ := h2 o ho
  exact ⟨v, by simp [World.cell?, h1, h3], h4⟩
theorem nthG_get : ∀ {l : List Nat} {o : Nat}, o < l.length → l[o]? = some (nthG l o)
  | [], _, h => absurd h (by simp)
  | _ :: _, 0, _ => rfl
  | m :: l, o + 1, h => by
    show l[o]? = some (nthG l o)
    exact nthG_get (by simpa using h)
theorem gvK_fin {h : HP} {c g o : Nat} {k : Nat → R} {v : V} {h' : HP} {c' : Nat} (e : gvK h c g o k = .fin v h' c') : ∃ ty l, hget h (nat_lit 0) = .gv g ty l ∧ (0 < c ∧ o < l.length) ∧ k (nthG l o) = .fin v h' c' := by
  unfold gvK at e
  cases hb : hget h (nat_lit 0) with
  | gv g' ty l =>
    rw [hb] at e
    obtain ⟨e1, e2⟩ := ifT_fin e
    obtain ⟨e2, e3⟩ := ifT_fin e2
    obtain ⟨e3, e4⟩ := ifT_fin e3
    rw [fN_eq] at e4
    have := Nat.eq_of_beq_eq_true e1
    subst this
    exact ⟨ty, l, rfl, ⟨Nat.le_of_ble_eq_true e2, (by have := Nat.le_of_ble_eq_true e3; rw [len_eq] at this; omega)⟩, e4⟩
  | _ => rw [hb] at e; cases e
theorem HR.gcell (H : HR X P w0 ρ h c w) {g ty o : Nat} {l : List Nat} (e : hget h (nat_lit 0) = .gv g ty l) (ho : 0 < c ∧ o < l.length) : w.cell? ⟨g, o, none⟩ = some (.int .i64 (Int.ofNat (nthG l o))) := by
  have h1 := H.blk 0 ho.1
  rw [show hget h 0 = .gv g ty l from e] at h1
  obtain ⟨p, h2, rfl, h4⟩ := h1
  have h5 := nthG_get ho.2
  simp [World.cell?, h4, h5]
theorem addr_add (g o n : Nat) : (⟨g, o, none⟩ : Addr).add n = ⟨g, o + n, none⟩ := by unfold Addr.add; split <;> simp_all
theorem HR.cells (H : HR X P w0 ρ h c w) {a ty n q o k : Nat} {z : Z} {t : Ce} {p : Nat × Nat} (ha : ρ a = some p) (e : hget h a = .c ty n q z t) (ho : o + k ≤ n) :
    ∃ vs : List Value, vs.length = k ∧ denL ρ ((List.range k).map fun j => Ev.cell z t (o + j)) = some vs ∧ (∀ j v, vs[j]? = some v → w.cell? ((⟨p.1, o, none⟩ : Addr).add j) = some v) ∧ (loadCells ⟨p.1, o, none⟩ k).run P w = .ok vs.toArray w := by
  obtain ⟨cs, h1, _, h0, _, _, h2⟩ := H.row ha e
  have hl := CR.load (ρ := ρ) h2 k o ho
  have hlen : ((cs.toList.drop o).take k).length = k := by simp; omega
  have hc : ∀ j v, ((cs.toList.drop o).take k)[j]? = some v → w.cell? ((⟨p.1, o, none⟩ : Addr).add j) = some v := by
    intro j v hj
    rw [addr_add]
    simp only [List.getElem?_take, List.getElem?_drop] at hj
    split at hj
    · simp [World.cell?, h1]; simpa using hj
    · cases hj
  refine ⟨_, hlen, hl, hc, ?_⟩
  have := run_loadCells_list (P := P) w ⟨p.1, o, none⟩ ((cs.toList.drop o).take k) hc
  rw [hlen] at this
  exact this
theorem ldK_fin {a o n : Nat} {k : List V → R} {v : V} {h' : HP} {c' : Nat} (e : ldK h a o n k = .fin v h' c') : ∃ ty m q z t, hget h a = .c ty m q z t ∧ o + n ≤ m ∧ k ((List.range n).map fun j => Ev.cell z t (o + j)) = .fin v h' c' := by
  obtain ⟨ty, m, q, z, t, h1, h2⟩ := blk_fin e
  obtain ⟨h3, h4⟩ := ifT_fin h2
  rw [cellsK_eq] at h4
  exact ⟨ty, m, q, z, t, h1, Nat.le_of_ble_eq_true h3, h4⟩
/-- a row stored in -/
theorem HR.store (H : HR X P w0 ρ h c w) {a ty n q o : Nat} {z : Z} {t : Ce} {p : Nat × Nat} (ha : ρ a = some p) (e : hget h a = .c ty n q z t) {l : List V} {vs : List Value} (hl : denL ρ l = some vs) (h1 : ∀ v ∈ l, is1 v = true) (ho : o + l.length ≤ n) :
    ∃ w', (storeCells ⟨p.1, o, none⟩ vs).run P w = .ok () w' ∧ HR X P w0 ρ (Ev.hs h a (.c ty n q z (t.sets o l))) c w' := by
  obtain ⟨cs, k1, k2, k3, k4, k5, k6⟩ := H.row ha e
  have hlen := denL_length hl
  have h1' : ∀ x ∈ vs, x.oneCell' = true := by
    intro x hx
    obtain ⟨i, hi⟩ := List.mem_iff_getElem?.1 hx
    have hil : i < l.length := by rw [← hlen]; exact (List.getElem?_eq_some_iff.1 hi).1
    obtain ⟨y, hy, hd⟩ := denL_get hl (List.getElem?_eq_getElem hil)
    rw [hi] at hy; cases hy
    exact den_one (h1 _ (List.getElem_mem _)) hd
  refine ⟨_, run_storeCells_at P p.1 o ty vs 0 cs w k1 (by omega) h1', ?_⟩
  refine H.set ha (by rw [e]; exact Blk.noConfusion) (fun s hs => by rw [e] at hs; cases hs) (fun s hs => by cases hs) ?_ rfl rfl rfl (fun k hk => ?_) ?_
  · simp [World.setRow]
  · simp only [World.setRow]; rw [Array.getElem?_modify, if_neg (Ne.symm hk)]
  · refine ⟨p, _, ha, setRow_heap w p.1 cs _ ty _ k1, by rw [Ce.cap_sets]; exact k2, by simp; omega, fun hq => by simp; have := k4 hq; omega, fun hq => by simp; have := k5 hq; omega, ?_⟩
    refine CR.sets (cs := cs) k6 hl h1 (by omega) k2 fun i hi => ?_
    have hio : i < cs.size := by omega
    split
    · rename_i hin
      simp only [Nat.add_zero, List.getElem?_toArray]
      rw [List.append_assoc, List.getElem?_append_right (by simp; omega)]
      simp only [List.length_take, Array.length_toList]
      rw [Nat.min_eq_left (by omega), List.getElem?_append_left (by omega)]
    · rename_i hout
      refine ⟨hi, ?_⟩
      simp only [Nat.add_zero, List.getElem?_toArray]
      by_cases hlt : i < o
      · rw [List.append_assoc, List.getElem?_append_left (by simp; omega), List.getElem?_take]
        simp [hlt]
      · rw [List.getElem?_append_right (by simp; omega)]
        simp only [List.length_append, List.length_take, Array.length_toList, List.getElem?_drop]
        rw [Nat.min_eq_left (by omega)]
        simp only [Array.getElem?_toList]
        congr 1; omega
end
end Ev
end
section
namespace Ev
open Go Go.RowKit
set_option linter.unusedVariables false
set_option linter.unusedSimpArgs false
section
variable {α : Type} {d x : α}
theorem get_n (l : T α) (v : α) (r : T α) (i : Nat) : T.get d (.n l v r) i = match i with | 0 => v | i + 1 => if i % 2 = 0 then T.get d l (i / 2) else T.get d r (i / 2) := by
  cases i with
  | zero => rfl
  | succ i =>
    show Bool.rec (motive := fun _ => α) (T.get d r (i / 2)) (T.get d l (i / 2)) (Nat.beq (i % 2) 0) = _
    by_cases h : i % 2 = 0
    · simp only; rw [if_pos h]; rw [show Nat.beq (i % 2) 0 = true by rw [h]; rfl]
    · simp only; rw [if_neg h]; rw [show Nat.beq (i % 2) 0 = false by rw [show i % 2 = 1 by omega]; rfl]
theorem oneK_succ (f i : Nat) (k : T α → T α) : T.oneK d x (f + 1) i k = match i with | 0 => k (.n .e x .e) | i + 1 => if i % 2 = 0 then T.oneK d x f (i / 2) fun l => k (.n l d .e) else T.oneK d x f (i / 2) fun r => k (.n .e d r) := by
  cases i with
  | zero => rfl
  | succ i =>
    show Bool.rec (motive := fun _ => T α) (T.oneK d x f (i / 2) fun r => k (.n .e d r)) (T.oneK d x f (i / 2) fun l => k (.n l d .e)) (Nat.beq (i % 2) 0) = _
    by_cases h : i % 2 = 0
    · simp only; rw [if_pos h]; rw [show Nat.beq (i % 2) 0 = true by rw [h]; rfl]
    · simp only; rw [if_neg h]; rw [show Nat.beq (i % 2) 0 = false by rw [show i % 2 = 1 by omega]; rfl]
theorem setK_n (l : T α) (v : α) (r : T α) (i : Nat) (k : T α → T α) : T.setK d x (.n l v r) i k = match i with | 0 => k (.n l x r) | i + 1 => if i % 2 = 0 then T.setK d x l (i / 2) fun l => k (.n l v r) else T.setK d x r (i / 2) fun r => k (.n l v r) := by
  cases i with
  | zero => rfl
  | succ i =>
    show Bool.rec (motive := fun _ => T α) (T.setK d x r (i / 2) fun r => k (.n l v r)) (T.setK d x l (i / 2) fun l => k (.n l v r)) (Nat.beq (i % 2) 0) = _
    by_cases h : i % 2 = 0
    · simp only; rw [if_pos h]; rw [show Nat.beq (i % 2) 0 = true by rw [h]; rfl]
    · simp only; rw [if_neg h]; rw [show Nat.beq (i % 2) 0 = false by rw [show i % 2 = 1 by omega]; rfl]
theorem oneK_k : ∀ (f i : Nat) (k : T α → T α), T.oneK d x f i k = k (T.oneK d x f i fun t => t)
  | 0, _, _ => rfl
  | f + 1, i, k => by
    rw [oneK_succ, oneK_succ]
    cases i with
    | zero => rfl
    | succ i =>
      simp only
      split
      · rw [oneK_k f _ (fun l => k (.n l d .e)), oneK_k f _ (fun l => T.n l d .e)]
      · rw [oneK_k f _ (fun r => k (.n .e d r)), oneK_k f _ (fun r => T.n .e d r)]
theorem setK_k : ∀ (t : T α) (i : Nat) (k : T α → T α), T.setK d x t i k = k (T.setK d x t i fun t => t)
  | .e, i, k => oneK_k (i + 1) i k
  | .n l v r, i, k => by
    rw [setK_n, setK_n]
    cases i with
    | zero => rfl
    | succ i =>
      simp only
      split
      · rw [setK_k l _ (fun l => k (.n l v r)), setK_k l _ (fun l => T.n l v r)]
      · rw [setK_k r _ (fun r => k (.n l v r)), setK_k r _ (fun r => T.n l v r)]
theorem get_oneK : ∀ (f i j : Nat), i < f → T.get d (T.oneK d x f i fun t => t) j = if j = i then x else d
  | 0, _, _, h => by omega
  | f + 1, i, j, h => by
    rw [oneK_succ]
    cases i with
    | zero => simp only; rw [get_n]; cases j <;> simp [T.get]
    | succ i =>
      simp only
      split
      · rw [oneK_k, get_n]
        cases j with
        | zero => simp
        | succ j =>
          simp only
          rw [get_oneK f _ _ (by omega)]
          by_cases e : j = i
          · subst e; simp [*]
          · rw [if_neg (by omega : ¬ j + 1 = i + 1)]
            split
            · rw [if_neg (by omega)]
            · rfl
      · rw [oneK_k, get_n]
        cases j with
        | zero => simp
        | succ j =>
          simp only
          rw [get_oneK f _ _ (by omega)]
          by_cases e : j = i
          · subst e; simp [*]
          · rw [if_neg (by omega : ¬ j + 1 = i + 1)]
            split
            · rfl
            · rw [if_neg (by omega)]
theorem get_setK : ∀ (t : T α) (i j : Nat), T.get d (T.setK d x t i fun t => t) j = if j = i then x else T.get d t j
  | .e, i, j => (get_oneK (i + 1) i j (by omega)).trans rfl
  | .n l v r, i, j => by
    rw [setK_n]
    cases i with
    | zero => simp only; rw [get_n, get_n]; cases j <;> simp
    | succ i =>
      simp only
      split
      · rw [setK_k, get_n, get_n]
        cases j with
        | zero => simp
        | succ j =>
          simp only
          rw [get_setK l]
          by_cases e : j = i
          · subst e; simp [*]
          · rw [if_neg (by omega : ¬ j + 1 = i + 1)]
            split
            · rw [if_neg (by omega)]
            · rfl
      · rw [setK_k, get_n, get_n]
        cases j with
        | zero => simp
        | succ j =>
          simp only
          rw [get_setK r]
          by_cases e : j = i
          · subst e; simp [*]
          · rw [if_neg (by omega : ¬ j + 1 = i + 1)]
            split
            · rfl
            · rw [if_neg (by omega)]
theorem get_bld : ∀ (l : List α) (i : Nat) (t : T α) (j : Nat), T.get d (bld d l i t) j = if i ≤ j ∧ j < i + l.length then l.getD (j - i) d else T.get d t j
  | [], i, t, j => by rw [if_neg (by simp)]; rfl
  | v :: l, i, t, j => by
    show T.get d (bld d l (i + 1) (T.setK d v t i fun t => t)) j = _
    rw [get_bld l, get_setK]
    simp only [List.length_cons]
    by_cases e : j = i
    · subst e
      rw [if_neg (by omega), if_pos rfl, if_pos (by omega)]; simp
    · by_cases h : i ≤ j ∧ j < i + (l.length + 1)
      · rw [if_pos (by omega), if_pos h, show j - i = (j - (i + 1)) + 1 by omega]; simp
      · rw [if_neg (by omega), if_neg e, if_neg h]
end
section
variable {P : Program}
theorem tyI_info {t : Nat} {i : TypeInfo} (h : tyI (types P) t = some i) : P.info? t = some i := by
  unfold tyI types at h
  rw [get_bld] at h
  split at h
  · rename_i hlt
    simp only [Nat.zero_add, List.length_map, Array.length_toList] at hlt
    have : t < P.types.size := hlt.2
    simp only [Nat.sub_zero, List.getD, List.getElem?_map, Array.getElem?_toList] at h
    unfold Tables.info?
    rw [if_pos this]
    rw [Array.getElem?_eq_getElem this] at h ⊢
    simpa using h
  · cases h
theorem und_under {t : Nat} {d : TypeDesc} (h : und (types P) t = some d) : P.underlying t = some d ∧ ∃ i, P.info? t = some i ∧ siz (types P) t = i.size ∧ byt (types P) t = i.bytes := by
  unfold und at h
  cases hi : tyI (types P) t with
  | none => rw [hi] at h; cases h
  | some i =>
    rw [hi] at h
    have hI := tyI_info hi
    refine ⟨?_, i, hI, by simp [siz, hi], by simp [byt, hi]⟩
    unfold Program.underlying
    rw [hI]
    obtain ⟨desc, str, size, bytes, hp, al, fa, zero, cmp, ms⟩ := i
    cases desc with
    | named n u =>
      simp only at h ⊢
      cases hu : tyI (types P) u with
      | none => rw [hu] at h; cases h
      | some j => rw [hu] at h; rw [tyI_info hu]; exact h
    | _ => simpa using h
theorem siz_pos {t : Nat} (h : 0 < siz (types P) t) : ∃ i, P.info? t = some i ∧ siz (types P) t = i.size ∧ byt (types P) t = i.bytes := by
  unfold siz byt at *
  cases hi : tyI (types P) t with
  | none => rw [hi] at h; simp at h
  | some i => exact ⟨i, tyI_info hi, by simp, by simp⟩
variable (P) in
theorem run_sizeOf {t : Nat} {i : TypeInfo} (h : P.info? t = some i) (w : World) : (Go.sizeOf t).run P w = .ok i.size w := by simp [Go.sizeOf, typeInfo, h]
variable (P) in
theorem run_isAgg {t : Nat} {d : TypeDesc} (h : und (types P) t = some d) (w : World) : (isAgg t).run P w = .ok (agg (types P) t) w := by
  unfold isAgg agg
  rw [h]
  simp only [Sem.run_bind, run_underlying (und_under h).1, Result.andThen_ok]
  cases d <;> rfl
theorem zOf_zero {t : Nat} {l : List Value} (h : zOf (types P) t = some l) : ∃ i z, P.info? t = some i ∧ i.zero = some z ∧ z.cells.toList = l := by
  unfold zOf at h
  cases hi : tyI (types P) t with
  | none => rw [hi] at h; cases h
  | some i =>
    rw [hi] at h
    simp only [Option.map_eq_some_iff] at h
    obtain ⟨z, hz, rfl⟩ := h
    exact ⟨i, z, tyI_info hi, hz, rfl⟩
end
theorem kd_kN (k : IntKind) : kd (kN k) = k := by cases k <;> rfl
theorem str_bytes (s : ByteArray) : str (s.data.toList.map (·.toNat)) = s := by
  obtain ⟨⟨l⟩⟩ := s
  have : List.map (UInt8.ofNat ∘ fun x => x.toNat) l = l := by
    conv => rhs; rw [← List.map_id l]
    exact List.map_congr_left fun x _ => by simp
  simp [str, this]
theorem cV_den {v : Value} {x : V} (h : cV v = some x) (ρ : Rho) : den ρ x = some v := by
  unfold cV at h
  split at h <;> first
    | (cases h; simp [den, kd_kN, str_bytes])
    | (split at h
       · rename_i hl
         cases h
         simp only [den, undef]
         congr 2
         exact (Array.toList_inj.1 (by simpa using hl)).symm
       · cases h)
    | cases h
theorem cVs_den {ρ : Rho} : ∀ {l : List Value} {x : List V}, cVs l = some x → denL ρ x = some l
  | [], _, h => by cases h; simp [denL]
  | v :: l, r, h => by
    unfold cVs at h
    split at h
    · rename_i x y h1 h2
      cases h
      exact denL_cons.2 ⟨v, l, rfl, cV_den h1 ρ, cVs_den h2⟩
    · cases h
theorem okT_iff {nt t : Nat} : okT nt t = true ↔ t < nt ∧ t < 256 := by simp [okT, Nat.blt_eq]
section
variable {ρ : Rho} {nt : Nat} {t : TM} {a : Act}
theorem opd_den {x : Operand} {o : OP} (h : cOpd nt x = .mk o) (H : TR ρ nt t a.tmps) : den ρ (o t) = some (a.eval x) := by
  unfold cOpd at h
  cases x with
  | tmp n =>
    simp only at h
    cases hb : okT nt n with
    | false => rw [hb] at h; cases h
    | true =>
      rw [hb] at h
      obtain ⟨h1, h2⟩ := okT_iff.1 hb
      rw [gOp_eq h2 h]
      obtain ⟨v, hv, hd⟩ := H.2 n h1 h2
      rw [hd]
      simp [Act.eval, Array.getD_eq_getD_getElem?, hv]
  | const v =>
    simp only at h
    cases hc : cV v with
    | none => rw [hc] at h; cases h
    | some y => rw [hc] at h; cases h; exact cV_den hc ρ
  | global g => cases h; simp [kv, den, Act.eval]
  | func f => cases h; simp [kv, den, denL, Act.eval]
theorem opds_den : ∀ {l : List Operand} {os : List OP}, cOpds nt l = .mk os → TR ρ nt t a.tmps → denL ρ (os.map fun o => o t) = some (l.map a.eval)
  | [], _, h, _ => by cases h; simp [denL]
  | x :: l, r, h, H => by
    unfold cOpds at h
    split at h
    · rename_i o os h1 h2
      cases h
      exact denL_cons.2 ⟨_, _, rfl, opd_den h1 H, opds_den h2 H⟩
    · cases h
/-- where a result goes -/
def dT (dst : Option Nat) (t : TM) (v : V) : TM → Prop := fun t1 => match dst with | none => t1 = t | some n => t1 = ts t n v
theorem dst_eq {dst : Option Nat} {d : DS} (h : cDst nt dst = .mk d) (v : V) (t : TM) (k : TM → R) : ∃ t1, dT dst t v t1 ∧ d v t k = k t1 := by
  cases dst with
  | none => cases h; exact ⟨t, rfl, rfl⟩
  | some n =>
    simp only [cDst] at h
    cases hb : okT nt n with
    | false => rw [hb] at h; cases h
    | true =>
      rw [hb] at h
      exact ⟨_, rfl, dOp_eq (okT_iff.1 hb).2 h v t k⟩
theorem dst_ok {dst : Option Nat} {d : DS} (h : cDst nt dst = .mk d) {v : V} {x : Value} {t1 : TM} (h1 : dT dst t v t1) (H : TR ρ nt t a.tmps) (hv : den ρ v = some x) : TR ρ nt t1 (a.put dst x).tmps ∧ (a.put dst x).defers = a.defers := by
  cases dst with
  | none => cases h1; exact ⟨H, rfl⟩
  | some n =>
    simp only [cDst] at h
    cases hb : okT nt n with
    | false => rw [hb] at h; cases h
    | true =>
      obtain ⟨h2, h3⟩ := okT_iff.1 hb
      cases h1
      exact ⟨H.put h2 h3 hv, rfl⟩
end
end Ev
end
section
namespace Ev
open Go Go.RowKit
set_option linter.unusedVariables false
set_option linter.unusedSimpArgs false
def Fr (r : Option Nat) : Fence := { Fence.wide with round := r }
def Kp (h h1 : HP) (c : Nat) : Prop := ∀ k, k < c → hget h k = .df → hget h1 k = .df
theorem Kp.refl (h : HP) (c : Nat) : Kp h h c := fun _ _ e => e
theorem Kp.trans {h h1 h2 : HP} {c c1 : Nat} (a : Kp h h1 c) (b : Kp h1 h2 c1) (e : c ≤ c1) : Kp h h2 c := fun k hk x => b k (by omega) (a k hk x)
theorem Kp.hs {h : HP} {c a : Nat} {b : Blk} (hc : c ≤ 65536) (ha : a < 65536) (hd : a < c → hget h a ≠ .df) : Kp h (hs h a b) c := fun k hk e => by
  rw [hget_hs b h ha (by omega)]
  split
  · rename_i h1; subst h1; exact absurd e (hd hk)
  · exact e
/-- a call of a function's value -/
def CallV (P : Program) (q : Prop) (g : Value) (l : List Value) (w : World) (R : Value → World → Prop) : Prop :=
  (∃ f args, (do let d ← Deferred.ofValue g l.toArray; invoke d.target d.args : Sem Next).run P w = .ok (.enter f args) w ∧ Calls P f args w (fun e w' => ∃ v, e = .returned v ∧ R v w')) ∨
  (q ∧ ∃ i f tmps a b, (do let d ← Deferred.ofValue g l.toArray; invoke d.target d.args : Sem Next).run P w = .ok (.round i f tmps a b) w ∧ RoundIn Fence.wide 0 P i f tmps a b w (fun e w' => ∃ v, e = .returned v ∧ R v w'))
section
variable (X : Spx) (P : Program)
def CalOK (cal : CAL) : Prop := ∀ g l h c k v' h' c', cal g l h c k = .fin v' h' c' → ∃ v h1 c1, k v h1 c1 = .fin v' h' c' ∧
  ∀ w0 ρ w gv lv, HR X P w0 ρ h c w → den ρ g = some gv → denL ρ l = some lv → CallV P (∃ i, g = .y i) gv lv w fun x w' => ∃ ρ', Le ρ ρ' ∧ HR X P w0 ρ' h1 c1 w' ∧ den ρ' v = some x ∧ Kp h h1 c ∧ c ≤ c1
def OSnd (nt : Nat) (f : OC) (o : Oper) : Prop := ∀ cal, CalOK X P cal → ∀ t h c df k v' h' c', f cal t h c df k = .fin v' h' c' →
  ∃ t1 h1 c1, k t1 h1 c1 df = .fin v' h' c' ∧ ∀ w0 ρ a w r n Q K, HR X P w0 ρ h c w → TR ρ nt t a.tmps →
    (∀ ρ' a' w', Le ρ ρ' → HR X P w0 ρ' h1 c1 w' → TR ρ' nt t1 a'.tmps → Kp h h1 c → c ≤ c1 → a'.defers = a.defers → K a' w') → o.wpIn (Fr r) n P a w K Q
end
section
variable {X : Spx} {P : Program} {nt : Nat}
theorem wpIn_value {o : Oper} {a : Act} {w w' : World} {r : Option Nat} {n : Nat} {K : Act → World → Prop} {Q : Exit → Act → World → Prop} {x : Value} (ho : ∀ c, o.op ≠ .defer c)
    (h : (execOp a.eval o).run P w = .ok (.value x) w') (hK : K (a.put o.dst x) w') : o.wpIn (Fr r) n P a w K Q := by
  refine ⟨fun _ _ => trivial, ?_⟩
  rw [Oper.semAt_eq _ _ _ ho, h]
  exact hK
theorem OSnd.mem {f : OC} {o : Oper} {d : DS} (ho : ∀ c, o.op ≠ .defer c) (hd : cDst nt o.dst = .mk d)
    (H : ∀ cal, CalOK X P cal → ∀ t h c df k v' h' c', f cal t h c df k = .fin v' h' c' → ∃ v h1 c1, (d v t fun t => k t h1 c1 df) = .fin v' h' c' ∧
      ∀ w0 ρ (a : Act) w, HR X P w0 ρ h c w → TR ρ nt t a.tmps → ∃ ρ' x w', Le ρ ρ' ∧ HR X P w0 ρ' h1 c1 w' ∧ den ρ' v = some x ∧ Kp h h1 c ∧ c ≤ c1 ∧ (execOp a.eval o).run P w = .ok (.value x) w') : OSnd X P nt f o := by
  intro cal hcal t h c df k v' h' c' e
  obtain ⟨v, h1, c1, e1, hw⟩ := H cal hcal t h c df k v' h' c' e
  obtain ⟨t1, ht1, e2⟩ := dst_eq hd v t fun t => k t h1 c1 df
  rw [e2] at e1
  refine ⟨t1, h1, c1, e1, fun w0 ρ a w r n Q K hR hT hK => ?_⟩
  obtain ⟨ρ', x, w', g1, g2, g3, g4, g5, g6⟩ := hw w0 ρ a w hR hT
  obtain ⟨g7, g8⟩ := dst_ok hd ht1 (hT.mono g1) g3
  exact wpIn_value ho g6 (hK ρ' _ w' g1 g2 g7 g4 g5 g8)
/-- no memory is turned -/
theorem OSnd.val {f : OC} {o : Oper} {d : DS} (ho : ∀ c, o.op ≠ .defer c) (hd : cDst nt o.dst = .mk d)
    (H : ∀ cal t h c df k v' h' c', f cal t h c df k = .fin v' h' c' → ∃ v, (d v t fun t => k t h c df) = .fin v' h' c' ∧
      ∀ w0 ρ (a : Act) w, HR X P w0 ρ h c w → TR ρ nt t a.tmps → ∃ x, den ρ v = some x ∧ (execOp a.eval o).run P w = .ok (.value x) w) : OSnd X P nt f o := by
  refine OSnd.mem ho hd fun cal _ t h c df k v' h' c' e => ?_
  obtain ⟨v, e1, hw⟩ := H cal t h c df k v' h' c' e
  refine ⟨v, h, c, e1, fun w0 ρ a w hR hT => ?_⟩
  obtain ⟨x, g1, g2⟩ := hw w0 ρ a w hR hT
  exact ⟨ρ, x, w, Le.refl _, hR, g1, Kp.refl _ _, Nat.le_refl _, g2⟩
/-- an operation that yields, and turns no memory -/
def VSnd (X : Spx) (P : Program) (nt : Nat) (d : DS) (f : OC) (o : Oper) : Prop := (∀ c, o.op ≠ .defer c) ∧ cDst nt o.dst = .mk d ∧ ∀ cal t h c df k v' h' c', f cal t h c df k = .fin v' h' c' → ∃ v, (d v t fun t => k t h c df) = .fin v' h' c' ∧
  ∀ w0 ρ (a : Act) w, HR X P w0 ρ h c w → TR ρ nt t a.tmps → ∃ x, den ρ v = some x ∧ (execOp a.eval o).run P w = .ok (.value x) w
theorem VSnd.of {f : OC} {o : Oper} {d : DS} (ho : ∀ c, o.op ≠ .defer c) (hd : cDst nt o.dst = .mk d)
    (H : ∀ cal t h c df k v' h' c', f cal t h c df k = .fin v' h' c' → ∃ v, (d v t fun t => k t h c df) = .fin v' h' c' ∧
      ∀ w0 ρ (a : Act) w, HR X P w0 ρ h c w → TR ρ nt t a.tmps → ∃ x, den ρ v = some x ∧ (execOp a.eval o).run P w = .ok (.value x) w) : VSnd X P nt d f o := ⟨ho, hd, H⟩
theorem VSnd.o {f : OC} {o : Oper} {d : DS} (h : VSnd X P nt d f o) : OSnd X P nt f o := OSnd.val h.1 h.2.1 h.2.2
section
variable {o : Oper} {d : DS}
theorem snd_mv {x : Operand} {y : OP} (hop : o.op = .move x ∨ o.op = .assign x) (hd : cDst nt o.dst = .mk d) (hy : cOpd nt x = .mk y) : VSnd X P nt d (fMv d y) o := by
  refine VSnd.of (by rcases hop with h | h <;> rw [h] <;> simp) hd fun cal t h c df k v' h' c' e => ⟨_, e, fun w0 ρ a w hR hT => ⟨_, opd_den hy hT, ?_⟩⟩
  rcases hop with h | h <;> simp [execOp, h]
theorem bool_den {ρ : Rho} {v : V} {b : Bool} {x : Value} (e : v = .b b) (h : den ρ v = some x) : x = .bool b := by subst e; simpa [den] using h.symm
theorem snd_pick {c a b : Operand} {y1 y2 y3 : OP} (hop : o.op = .pick c a b) (hd : cDst nt o.dst = .mk d) (h1 : cOpd nt c = .mk y1) (h2 : cOpd nt a = .mk y2) (h3 : cOpd nt b = .mk y3) : VSnd X P nt d (fPick d y1 y2 y3) o := by
  refine VSnd.of (by rw [hop]; simp) hd fun cal t h c df k v' h' c' e => ?_
  obtain ⟨q, e1, e2⟩ := asB_fin e
  refine ⟨_, e2, fun w0 ρ a w hR hT => ?_⟩
  have d1 := bool_den e1 (opd_den h1 hT)
  cases q
  · exact ⟨_, opd_den h3 hT, by simp [execOp, hop, d1, asBool]⟩
  · exact ⟨_, opd_den h2 hT, by simp [execOp, hop, d1, asBool]⟩
theorem snd_no {x : Operand} {T : TypeId} {y : OP} (hop : o.op = .unOp .not T x) (hd : cDst nt o.dst = .mk d) (h1 : cOpd nt x = .mk y) : VSnd X P nt d (fNo d y) o := by
  refine VSnd.of (by rw [hop]; simp) hd fun cal t h c df k v' h' c' e => ?_
  obtain ⟨q, e1, e2⟩ := asB_fin e
  refine ⟨.b (!q), by cases q <;> exact e2, fun w0 ρ a w hR hT => ?_⟩
  have d1 := bool_den e1 (opd_den h1 hT)
  exact ⟨.bool !q, by simp [den], by simp [execOp, hop, d1, Op.unary]⟩
theorem ptr_den {ρ : Rho} {v : V} {b r : Nat} {x : Value} (e : v = .p b r) (h : den ρ v = some x) : ∃ p, ρ b = some p ∧ x = .pointer (some ⟨p.1, r, none⟩) := by
  subst e; simp only [den, Option.map_eq_some_iff] at h; obtain ⟨p, h1, h2⟩ := h; exact ⟨p, h1, h2.symm⟩
theorem snd_nck {x : Operand} {y : OP} (hop : o.op = .nilCheck x) (hd : cDst nt o.dst = .mk d) (h1 : cOpd nt x = .mk y) : VSnd X P nt d (fNck d y) o := by
  refine VSnd.of (by rw [hop]; simp) hd fun cal t h c df k v' h' c' e => ?_
  rcases asPG_fin e with ⟨b, r, e1, e2⟩ | ⟨g, r, e1, e2⟩
  · refine ⟨_, e2, fun w0 ρ a w hR hT => ?_⟩
    have hx := opd_den h1 hT
    obtain ⟨p, d1, d2⟩ := ptr_den e1 hx
    rw [e1] at hx
    refine ⟨_, hx, ?_⟩
    simp [execOp, hop, d2]
  · refine ⟨_, e2, fun w0 ρ a w hR hT => ?_⟩
    have hx := opd_den h1 hT
    rw [e1] at hx
    have d2 : a.eval x = .pointer (some ⟨g, r, none⟩) := by simpa [den] using hx.symm
    refine ⟨_, hx, ?_⟩
    simp [execOp, hop, d2]
theorem snd_ld {x : Operand} {y : OP} {T : TypeId} {D : TypeDesc} (hop : o.op = .load T x) (hd : cDst nt o.dst = .mk d) (h1 : cOpd nt x = .mk y) (hT : und (types P) T = some D) (hg : agg (types P) T = false) : VSnd X P nt d (fLd d y) o := by
  refine VSnd.of (by rw [hop]; simp) hd fun cal t h c df k v' h' c' e => ?_
  rcases asPG_fin e with ⟨b, r, e1, e2⟩ | ⟨g, r, e1, e2⟩
  · obtain ⟨ty, m, q, z, u, e3, e4⟩ := blk_fin e2
    obtain ⟨e5, e6⟩ := ifT_fin e4
    rw [fV_eq] at e6
    refine ⟨_, e6, fun w0 ρ a w hR hTR => ?_⟩
    obtain ⟨p, d1, d2⟩ := ptr_den e1 (opd_den h1 hTR)
    obtain ⟨v, c1, c2⟩ := hR.cell d1 e3 (Nat.le_of_ble_eq_true e5)
    refine ⟨v, c2, ?_⟩
    simp [execOp, hop, d2, Instr.loadAt, Instr.sureAddr, loadVar, run_isAgg P hT, hg, load, Sem.run, c1]
  · obtain ⟨ty, l, e3, e4, e5⟩ := gvK_fin e2
    refine ⟨_, e5, fun w0 ρ a w hR hTR => ?_⟩
    have hx := opd_den h1 hTR
    rw [e1] at hx
    have d2 : a.eval x = .pointer (some ⟨g, r, none⟩) := by simpa [den] using hx.symm
    have c1 := hR.gcell e3 e4
    refine ⟨.int .i64 (Int.ofNat (nthG l r)), rfl, ?_⟩
    simp [execOp, hop, d2, Instr.loadAt, Instr.sureAddr, loadVar, run_isAgg P hT, hg, load, Sem.run, c1]
theorem snd_lda {x : Operand} {y : OP} {T : TypeId} {D : TypeDesc} (hop : o.op = .load T x) (hd : cDst nt o.dst = .mk d) (h1 : cOpd nt x = .mk y) (hT : und (types P) T = some D) (hg : agg (types P) T = true) : VSnd X P nt d (fLda d (siz (types P) T) y) o := by
  refine VSnd.of (by rw [hop]; simp) hd fun cal t h c df k v' h' c' e => ?_
  obtain ⟨b, r, e1, e2⟩ := asP_fin e
  obtain ⟨ty, m, q, z, u, e3, e4, e5⟩ := ldK_fin e2
  refine ⟨_, e5, fun w0 ρ a w hR hTR => ?_⟩
  obtain ⟨p, d1, d2⟩ := ptr_den e1 (opd_den h1 hTR)
  obtain ⟨vs, c1, c2, c3, c4⟩ := hR.cells d1 e3 e4
  obtain ⟨i, hi, hs, _⟩ := (und_under hT).2
  refine ⟨.agg vs.toArray, by simp [den, c2], ?_⟩
  rw [hs] at c4
  simp [execOp, hop, d2, Instr.loadAt, Instr.sureAddr, loadVar, run_isAgg P hT, hg, run_sizeOf P hi, c4]
theorem snd_st {x y : Operand} {y1 y2 : OP} {T : TypeId} {D : TypeDesc} (hop : o.op = .store T x y) (hdst : o.dst = none) (h1 : cOpd nt x = .mk y1) (h2 : cOpd nt y = .mk y2) (hT : und (types P) T = some D) : OSnd X P nt (fSt (siz (types P) T) y1 y2) o := by
  intro cal hcal t h c df k v' h' c' e
  obtain ⟨b, r, e1, e2⟩ := asP_fin e
  obtain ⟨e3, e4⟩ := ifT_fin e2
  obtain ⟨ty, m, q, z, u, e5, e6⟩ := blk_fin e4
  obtain ⟨e7, e8⟩ := ifT_fin e6
  have hlen : (cl (y2 t)).length = siz (types P) T := by rw [← len_eq]; exact Nat.eq_of_beq_eq_true e3
  have hm : r + (cl (y2 t)).length ≤ m := by rw [hlen]; exact Nat.le_of_ble_eq_true e7
  obtain ⟨u', e10, e9, _, e11⟩ := stK_fin e8
  rw [hset_eq] at e10
  refine ⟨t, _, c, e10, fun w0 ρ a w rr n Q K hR hTR hK => ?_⟩
  obtain ⟨p, d1, d2⟩ := ptr_den e1 (opd_den h1 hTR)
  have d3 := cl_den (opd_den h2 hTR)
  obtain ⟨w', s1, s2⟩ := hR.store d1 e5 d3 e9 hm
  have hcap : r + (cl (y2 t)).length ≤ u.cap := by obtain ⟨_, _, k2, _⟩ := hR.row d1 e5; omega
  rw [← e11 hcap] at s2
  obtain ⟨i, hi, hs, _⟩ := (und_under hT).2
  refine ⟨fun _ _ => trivial, ?_⟩
  rw [Oper.semAt_eq _ _ _ (by rw [hop]; simp)]
  have hsz : (a.eval y).cells.size = i.size := by
    have := denL_length d3
    rw [hlen, hs] at this
    simpa using this
  have hrun : (execOp a.eval o).run P w = .ok .skip w' := by
    simp [execOp, hop, d2, Instr.storeAt, Instr.sureAddr, storeVar, run_sizeOf P hi, hsz, s1]
  rw [hrun]
  show K (a.put o.dst undef) w'
  rw [hdst]
  exact hK ρ a w' (Le.refl _) s2 hTR (Kp.hs hR.le (by have := (hR.dom _ _ d1).1; have := hR.le; omega) fun _ hh => by rw [e5] at hh; cases hh) (Nat.le_refl _) rfl
end
end
end Ev
end
section
namespace Ev
open Go Go.RowKit
set_option linter.unusedVariables false
set_option linter.unusedSimpArgs false
section
variable {X : Spx} {P : Program} {nt : Nat} {o : Oper} {d : DS}
theorem okI_some {t : Nat} (h : okI (types P) t = true) : ∃ D, und (types P) t = some D := Option.isSome_iff_exists.1 h
theorem snd_fa {x : Operand} {y : OP} {T f : Nat} {fs : Array Field} {g : Field} (hop : o.op = .fieldAddr T x f) (hd : cDst nt o.dst = .mk d) (h1 : cOpd nt x = .mk y) (hT : und (types P) T = some (.struct fs)) (hf : fs[f]? = some g) (hz : Nat.beq (siz (types P) g.type) 0 = false) : VSnd X P nt d (fFa d g.offset y) o := by
  refine VSnd.of (by rw [hop]; simp) hd fun cal t h c df k v' h' c' e => ?_
  obtain ⟨b, r, e1, e2⟩ := asP_fin e
  rw [fN_eq] at e2
  refine ⟨_, e2, fun w0 ρ a w hR hTR => ?_⟩
  obtain ⟨p, d1, d2⟩ := ptr_den e1 (opd_den h1 hTR)
  obtain ⟨i, hi, hs, _⟩ := siz_pos (P := P) (t := g.type) (by have := Nat.ne_of_beq_eq_false hz; omega)
  have hne : ¬ i.size = 0 := by rw [← hs]; exact Nat.ne_of_beq_eq_false hz
  refine ⟨.pointer (some ⟨p.1, r + g.offset, none⟩), by simp [den, d1], ?_⟩
  simp [execOp, hop, d2, Instr.fieldAt, Instr.sureAddr, run_underlying (und_under hT).1, hf, fieldPlace, run_sizeOf P hi, hne, addr_add]
theorem agg_den {ρ : Rho} {v : V} {l : List V} {x : Value} (e : v = .ag l) (h : den ρ v = some x) : ∃ r, denL ρ l = some r ∧ x = .agg r.toArray := by
  subst e; simp only [den, Option.map_eq_some_iff] at h; obtain ⟨p, h1, h2⟩ := h; exact ⟨p, h1, h2.symm⟩
theorem tup_den {ρ : Rho} {v : V} {l : List V} {x : Value} (e : v = .tu l) (h : den ρ v = some x) : ∃ r, denL ρ l = some r ∧ x = .tuple r.toArray := by
  subst e; simp only [den, Option.map_eq_some_iff] at h; obtain ⟨p, h1, h2⟩ := h; exact ⟨p, h1, h2.symm⟩
theorem nth_den {ρ : Rho} {l : List V} {r : List Value} {i : Nat} (h : denL ρ l = some r) (hi : i < l.length) : ∃ x, r[i]? = some x ∧ den ρ (nth l i) = some x := by
  have hg : l[i]? = some l[i] := List.getElem?_eq_getElem hi
  obtain ⟨x, h1, h2⟩ := denL_get h hg
  refine ⟨x, h1, ?_⟩
  rw [nth_eq]; simp [List.getD, hg, h2]
theorem lt_len {α : Type} {l : List α} {i : Nat} (h : Nat.ble (Nat.succ i) (len l) = true) : i < l.length := by
  have := Nat.le_of_ble_eq_true h; rw [len_eq] at this; omega
theorem extract_list (r : List Value) (o n : Nat) : r.toArray.extract o (o + n) = ((r.drop o).take n).toArray := by
  apply Array.ext'
  simp [Array.toList_extract, List.extract_eq_take_drop]
theorem snd_fl {x : Operand} {y : OP} {T f : Nat} {fs : Array Field} {g : Field} (hop : o.op = .field T x f) (hd : cDst nt o.dst = .mk d) (h1 : cOpd nt x = .mk y) (hT : und (types P) T = some (.struct fs)) (hf : fs[f]? = some g) (hok : okI (types P) g.type = true) (hg : agg (types P) g.type = false) : VSnd X P nt d (fFl d g.offset y) o := by
  refine VSnd.of (by rw [hop]; simp) hd fun cal t h c df k v' h' c' e => ?_
  obtain ⟨l, e1, e2⟩ := asA_fin e
  obtain ⟨e3, e4⟩ := ifT_fin e2
  rw [fV_eq] at e4
  refine ⟨_, e4, fun w0 ρ a w hR hTR => ?_⟩
  obtain ⟨r, d1, d2⟩ := agg_den e1 (opd_den h1 hTR)
  obtain ⟨x', g1, g2⟩ := nth_den d1 (lt_len e3)
  obtain ⟨D, hD⟩ := okI_some hok
  refine ⟨x', g2, ?_⟩
  simp [execOp, hop, d2, Instr.field, run_underlying (und_under hT).1, hf, asAgg, part, run_isAgg P hD, hg, g1]
theorem snd_fla {x : Operand} {y : OP} {T f : Nat} {fs : Array Field} {g : Field} (hop : o.op = .field T x f) (hd : cDst nt o.dst = .mk d) (h1 : cOpd nt x = .mk y) (hT : und (types P) T = some (.struct fs)) (hf : fs[f]? = some g) (hok : okI (types P) g.type = true) (hg : agg (types P) g.type = true) : VSnd X P nt d (fFla d g.offset (siz (types P) g.type) y) o := by
  refine VSnd.of (by rw [hop]; simp) hd fun cal t h c df k v' h' c' e => ?_
  obtain ⟨l, e1, e2⟩ := asA_fin e
  refine ⟨_, e2, fun w0 ρ a w hR hTR => ?_⟩
  obtain ⟨r, d1, d2⟩ := agg_den e1 (opd_den h1 hTR)
  obtain ⟨D, hD⟩ := okI_some hok
  obtain ⟨i, hi, hs, _⟩ := (und_under hD).2
  refine ⟨.agg ((r.drop g.offset).take i.size).toArray, by rw [take_eq, drop_eq, hs]; simp [den, denL_take _ (denL_drop _ d1)], ?_⟩
  simp [execOp, hop, d2, Instr.field, run_underlying (und_under hT).1, hf, asAgg, part, run_isAgg P hD, hg, run_sizeOf P hi, extract_list]
theorem nat_den {ρ : Rho} {v : V} {k m : Nat} {x : Value} (e : v = .i k m) (h : den ρ v = some x) : x = .int (kd k) (m : Int) := by
  subst e; simpa [den] using h.symm
theorem sl_den {ρ : Rho} {v : V} {a r n e : Nat} {s : Bool} {x : Value} (e1 : v = .sl a r n e s) (h : den ρ v = some x) : ∃ p, ρ a = some p ∧ x = .slice (some ⟨p.1, r, none⟩) n (if s then p.2 - e else e) := by
  subst e1; simp only [den, Option.map_eq_some_iff] at h; obtain ⟨p, h1, h2⟩ := h; exact ⟨p, h1, h2.symm⟩
theorem snd_ia {x i : Operand} {y1 y2 : OP} {T E : Nat} (hop : o.op = .indexAddr T x i) (hd : cDst nt o.dst = .mk d) (h1 : cOpd nt x = .mk y1) (h2 : cOpd nt i = .mk y2) (hT : und (types P) T = some (.slice E)) (hok : okI (types P) E = true) : VSnd X P nt d (fIa d (siz (types P) E) y1 y2) o := by
  refine VSnd.of (by rw [hop]; simp) hd fun cal t h c df k v' h' c' e => ?_
  rcases asL_fin e with ⟨_, e1⟩ | ⟨b, r, n, q, s, e1, e2⟩
  · cases e1
  obtain ⟨kk, j, e3, e4⟩ := asN_fin e2
  obtain ⟨e5, e6⟩ := ifT_fin e4
  rw [fN_eq] at e6
  refine ⟨_, e6, fun w0 ρ a w hR hTR => ?_⟩
  obtain ⟨p, d1, d2⟩ := sl_den e1 (opd_den h1 hTR)
  have d3 := nat_den e3 (opd_den h2 hTR)
  obtain ⟨D, hD⟩ := okI_some hok
  obtain ⟨ii, hi, hs, _⟩ := (und_under hD).2
  have hlt : j < n := Nat.le_of_ble_eq_true e5
  refine ⟨.pointer (some ⟨p.1, r + j * ii.size, none⟩), by simp [den, d1, hs], ?_⟩
  simp [execOp, hop, d2, d3, Instr.indexAt, asIntOf, run_underlying (und_under hT).1, run_sizeOf P hi, hlt, addr_add]
theorem snd_iaa {x i : Operand} {y1 y2 : OP} {T E n : Nat} (hop : o.op = .indexAddr T x i) (hd : cDst nt o.dst = .mk d) (h1 : cOpd nt x = .mk y1) (h2 : cOpd nt i = .mk y2) (hT : und (types P) T = some (.array n E)) (hok : okI (types P) E = true) : VSnd X P nt d (fIaa d (siz (types P) E) n y1 y2) o := by
  refine VSnd.of (by rw [hop]; simp) hd fun cal t h c df k v' h' c' e => ?_
  obtain ⟨D, hD⟩ := okI_some hok
  obtain ⟨ii, hi, hs, _⟩ := (und_under hD).2
  rcases asPG_fin e with ⟨b, r, e1, e2⟩ | ⟨g, r, e1, e2⟩
  · obtain ⟨kk, j, e3, e4⟩ := asN_fin e2
    obtain ⟨e5, e6⟩ := ifT_fin e4
    rw [fN_eq] at e6
    refine ⟨_, e6, fun w0 ρ a w hR hTR => ?_⟩
    obtain ⟨p, d1, d2⟩ := ptr_den e1 (opd_den h1 hTR)
    have d3 := nat_den e3 (opd_den h2 hTR)
    have hlt : j < n := Nat.le_of_ble_eq_true e5
    refine ⟨.pointer (some ⟨p.1, r + j * ii.size, none⟩), by simp [den, d1, hs], ?_⟩
    simp [execOp, hop, d2, d3, Instr.indexAt, asIntOf, Instr.sureAddr, run_underlying (und_under hT).1, run_sizeOf P hi, hlt, addr_add]
  · obtain ⟨kk, j, e3, e4⟩ := asN_fin e2
    obtain ⟨e5, e6⟩ := ifT_fin e4
    rw [fN_eq] at e6
    refine ⟨_, e6, fun w0 ρ a w hR hTR => ?_⟩
    have hx := opd_den h1 hTR
    rw [e1] at hx
    have d2 : a.eval x = .pointer (some ⟨g, r, none⟩) := by simpa [den] using hx.symm
    have d3 := nat_den e3 (opd_den h2 hTR)
    have hlt : j < n := Nat.le_of_ble_eq_true e5
    refine ⟨.pointer (some ⟨g, r + j * ii.size, none⟩), by simp [den, hs], ?_⟩
    simp [execOp, hop, d2, d3, Instr.indexAt, asIntOf, Instr.sureAddr, run_underlying (und_under hT).1, run_sizeOf P hi, hlt, addr_add]
theorem snd_ex {x : Operand} {y : OP} {i : Nat} (hop : o.op = .extract x i) (hd : cDst nt o.dst = .mk d) (h1 : cOpd nt x = .mk y) : VSnd X P nt d (fEx d y i) o := by
  refine VSnd.of (by rw [hop]; simp) hd fun cal t h c df k v' h' c' e => ?_
  obtain ⟨l, e1, e2⟩ := asT_fin e
  obtain ⟨e3, e4⟩ := ifT_fin e2
  rw [fV_eq] at e4
  refine ⟨_, e4, fun w0 ρ a w hR hTR => ?_⟩
  obtain ⟨r, d1, d2⟩ := tup_den e1 (opd_den h1 hTR)
  obtain ⟨x', g1, g2⟩ := nth_den d1 (lt_len e3)
  exact ⟨x', g2, by simp [execOp, hop, d2, Instr.extract, g1]⟩
theorem snd_ix {x i : Operand} {y1 y2 : OP} {T E n : Nat} (hop : o.op = .index T x i) (hd : cDst nt o.dst = .mk d) (h1 : cOpd nt x = .mk y1) (h2 : cOpd nt i = .mk y2) (hT : und (types P) T = some (.array n E)) (hok : okI (types P) E = true) (hg : agg (types P) E = false) : VSnd X P nt d (fIx d (siz (types P) E) n y1 y2) o := by
  refine VSnd.of (by rw [hop]; simp) hd fun cal t h c df k v' h' c' e => ?_
  obtain ⟨l, e1, e2⟩ := asA_fin e
  obtain ⟨kk, j, e3, e4⟩ := asN_fin e2
  obtain ⟨e5, e6⟩ := ifT_fin e4
  obtain ⟨e7, e8⟩ := ifT_fin e6
  rw [fV_eq] at e8
  refine ⟨_, e8, fun w0 ρ a w hR hTR => ?_⟩
  obtain ⟨r, d1, d2⟩ := agg_den e1 (opd_den h1 hTR)
  have d3 := nat_den e3 (opd_den h2 hTR)
  obtain ⟨D, hD⟩ := okI_some hok
  obtain ⟨ii, hi, hs, _⟩ := (und_under hD).2
  have hlt : j < n := Nat.le_of_ble_eq_true e5
  obtain ⟨x', g1, g2⟩ := nth_den (i := j * siz (types P) E) d1 (lt_len e7)
  rw [hs] at g1
  refine ⟨x', g2, ?_⟩
  simp [execOp, hop, d2, d3, Instr.index, asIntOf, run_underlying (und_under hT).1, run_sizeOf P hi, hlt, part, run_isAgg P hD, hg, g1]
theorem snd_ixa {x i : Operand} {y1 y2 : OP} {T E n : Nat} (hop : o.op = .index T x i) (hd : cDst nt o.dst = .mk d) (h1 : cOpd nt x = .mk y1) (h2 : cOpd nt i = .mk y2) (hT : und (types P) T = some (.array n E)) (hok : okI (types P) E = true) (hg : agg (types P) E = true) : VSnd X P nt d (fIxa d (siz (types P) E) n y1 y2) o := by
  refine VSnd.of (by rw [hop]; simp) hd fun cal t h c df k v' h' c' e => ?_
  obtain ⟨l, e1, e2⟩ := asA_fin e
  obtain ⟨kk, j, e3, e4⟩ := asN_fin e2
  obtain ⟨e5, e6⟩ := ifT_fin e4
  refine ⟨_, e6, fun w0 ρ a w hR hTR => ?_⟩
  obtain ⟨r, d1, d2⟩ := agg_den e1 (opd_den h1 hTR)
  have d3 := nat_den e3 (opd_den h2 hTR)
  obtain ⟨D, hD⟩ := okI_some hok
  obtain ⟨ii, hi, hs, _⟩ := (und_under hD).2
  have hlt : j < n := Nat.le_of_ble_eq_true e5
  refine ⟨.agg ((r.drop (j * ii.size)).take ii.size).toArray, by rw [take_eq, drop_eq, hs]; simp [den, denL_take _ (denL_drop _ d1)], ?_⟩
  simp [execOp, hop, d2, d3, Instr.index, asIntOf, run_underlying (und_under hT).1, run_sizeOf P hi, hlt, part, run_isAgg P hD, hg, extract_list]
theorem str_den {ρ : Rho} {v : V} {l : List Nat} {x : Value} (e : v = .s l) (h : den ρ v = some x) : x = .string (str l) := by
  subst e; simpa [den] using h.symm
theorem str_size (l : List Nat) : (str l).size = l.length := by simp [str, ByteArray.size]
theorem snd_ixs {x i : Operand} {y1 y2 : OP} {T : Nat} (hop : o.op = .index T x i) (hd : cDst nt o.dst = .mk d) (h1 : cOpd nt x = .mk y1) (h2 : cOpd nt i = .mk y2) (hT : und (types P) T = some .string) : VSnd X P nt d (fIxs d y1 y2) o := by
  refine VSnd.of (by rw [hop]; simp) hd fun cal t h c df k v' h' c' e => ?_
  obtain ⟨l, e1, e2⟩ := asS_fin e
  obtain ⟨kk, j, e3, e4⟩ := asN_fin e2
  obtain ⟨e5, e6⟩ := ifT_fin e4
  rw [fN_eq] at e6
  refine ⟨_, e6, fun w0 ρ a w hR hTR => ?_⟩
  have d2 := str_den e1 (opd_den h1 hTR)
  have d3 := nat_den e3 (opd_den h2 hTR)
  have hlt : j < l.length := by have := Nat.le_of_ble_eq_true e5; rw [len_eq] at this; omega
  have hn : ∀ (l : List Nat) (j : Nat), j < l.length → nthN l j = l.getD j 0 := by
    intro l
    induction l with
    | nil => intro j h; simp at h
    | cons a l ih =>
      intro j h
      cases j with
      | zero => rfl
      | succ j => show nthN l j = _; rw [ih j (by simpa using h)]; simp
  have hg : l[j]? = some l[j] := List.getElem?_eq_getElem hlt
  have hb : (str l)[j]? = some (UInt8.ofNat l[j]) := by
    have hs : j < (str l).size := by rw [str_size]; exact hlt
    rw [getElem?_pos (str l) j hs]
    have : (str l)[j] = (l.map UInt8.ofNat).toArray[j]'(by simpa using hlt) := rfl
    rw [this]; simp
  refine ⟨.int .u8 ((l[j] % 256 : Nat) : Int), ?_, ?_⟩
  · rw [hn l j hlt]; simp [den, List.getD, hg, kd]; rfl
  · simp [execOp, hop, d2, d3, Instr.index, asIntOf, run_underlying (und_under hT).1, hb]
end
end Ev
end
section
namespace Ev
open Go Go.RowKit
set_option linter.unusedVariables false
set_option linter.unusedSimpArgs false
theorem ble_false {m n : Nat} : Nat.ble m n = false ↔ n < m := by
  constructor
  · intro h; rcases Nat.lt_or_ge n m with h1 | h1
    · exact h1
    · rw [Nat.ble_eq_true_of_le h1] at h; cases h
  · intro h; cases hb : Nat.ble m n with
    | false => rfl
    | true => have := Nat.le_of_ble_eq_true hb; omega
def vOf (k : Nat) (n : Int) : V := match n with | .ofNat m => .i k m | .negSucc m => .j k m
theorem vOf_den (ρ : Rho) (k : Nat) (n : Int) : den ρ (vOf k n) = some (.int (kd k) n) := by cases n <;> simp [vOf, den]
theorem wr_eq {k : Nat} {n : Int} {q : V → R} : wr k n q = q (vOf k ((kd k).wrap n)) := by unfold wr; rw [vI_eq]; rfl
theorem wrap_in (k : IntKind) {m : Nat} (h : m ≤ hiN k) : k.wrap (m : Int) = (m : Int) := by
  have h1 : (m : Int) % (2 ^ k.bits : Int) = m := by
    apply Int.emod_eq_of_lt (Int.natCast_nonneg _)
    cases k <;> simp only [hiN, IntKind.bits] at * <;> omega
  unfold IntKind.wrap
  simp only [h1]
  rw [if_neg]
  intro hc
  cases k <;> simp [hiN, IntKind.signed, IntKind.bits] at * <;> omega
theorem wrN_eq {k : IntKind} {m : Nat} {q : V → R} : wrN (kN k) (hiN k) m q = q (vOf (kN k) (k.wrap (m : Int))) := by
  unfold wrN
  rw [fN_eq]
  cases hb : Nat.ble m (hiN k) with
  | true => rw [ifT_true rfl, wrap_in k (Nat.le_of_ble_eq_true hb)]; rfl
  | false => rw [ifT_false rfl, wr_eq, kd_kN]; rfl
theorem ieq_eq (a b : Int) : ieq a b = (a == b) := by
  cases a <;> cases b <;> rename_i m n <;> simp only [ieq]
  · rw [Bool.eq_iff_iff]; simp; omega
  · rfl
  · rfl
  · rw [Bool.eq_iff_iff]; simp
theorem ilt_eq (a b : Int) : ilt a b = decide (a < b) := by
  cases a <;> cases b <;> rename_i m n <;> simp only [ilt]
  · rw [Bool.eq_iff_iff]; simp [Nat.succ_le_iff]
  · rw [Bool.eq_iff_iff]; simp; omega
  · rw [Bool.eq_iff_iff]; simp; omega
  · rw [Bool.eq_iff_iff]; simp [Nat.succ_le_iff]; omega
theorem bol_eq {b : Bool} {q : V → R} : bol b q = q (.b b) := by cases b <;> rfl
theorem nbl_eq {b : Bool} {q : V → R} : nbl b q = q (.b !b) := by cases b <;> rfl
theorem asX_eq {v : V} {q : Nat → Nat → R} {z : R} : asX v q z = match v with | .i k m => q k m | _ => z := by cases v <;> rfl
theorem int_den {ρ : Rho} {v : V} {k : Nat} {n : Int} (h : int v = some (k, n)) : den ρ v = some (.int (kd k) n) := by
  cases v <;> simp only [int, Option.some.injEq, Prod.mk.injEq] at h <;> first | (obtain ⟨rfl, rfl⟩ := h; simp [den]) | cases h
theorem b2_fin {k0 : Nat} {f : Nat → Nat → (V → R) → R} {s : Int → Int → (V → R) → R} {x y : V} {q : V → R} {w : V} {h : HP} {c : Nat} (H : b2 k0 f s x y q = .fin w h c) :
    (∃ m n, x = .i k0 m ∧ y = .i k0 n ∧ f m n q = .fin w h c) ∨ ∃ a b, int x = some (k0, a) ∧ int y = some (k0, b) ∧ s a b q = .fin w h c := by
  have slow : b2S k0 s x y q = .fin w h c → ∃ a b, int x = some (k0, a) ∧ int y = some (k0, b) ∧ s a b q = .fin w h c := by
    intro H
    obtain ⟨k, a, e1, e2⟩ := asI_fin H
    obtain ⟨k', b, e3, e4⟩ := asI_fin e2
    obtain ⟨e5, e6⟩ := ifT_fin e4
    obtain ⟨e7, e8⟩ := ifT_fin e6
    exact ⟨a, b, by rw [e1, Nat.eq_of_beq_eq_true e5], by rw [e3, Nat.eq_of_beq_eq_true e7], e8⟩
  unfold b2 at H
  rw [asX_eq] at H
  split at H
  · rename_i k m
    unfold b2F at H
    rw [asX_eq] at H
    split at H
    · rename_i k' n
      obtain ⟨e5, e6⟩ := ifT_fin H
      obtain ⟨e7, e8⟩ := ifT_fin e6
      exact .inl ⟨m, n, by rw [Nat.eq_of_beq_eq_true e5], by rw [Nat.eq_of_beq_eq_true e7], e8⟩
    · exact .inr (slow H)
  · exact .inr (slow H)
/-- what an operation on two values comes to -/
def BFok (P : Program) (f : BF) (op : BinOp) (T : TypeId) : Prop := ∀ x y q v' h' c', f x y q = .fin v' h' c' → ∃ v, q v = .fin v' h' c' ∧ ∀ ρ X Y, den ρ x = some X → den ρ y = some Y →
  ∃ r, den ρ v = some r ∧ ∀ w (s t : Operand), (do eqGuard op T s t X Y; binOp op T X Y : Sem Value).run P w = .ok r w
theorem bf_int {P : Program} {k : IntKind} {op : BinOp} {T : TypeId} {f : Nat → Nat → (V → R) → R} {s : Int → Int → (V → R) → R}
    (hf : ∀ m n q v' h' c', f m n q = .fin v' h' c' → ∃ v, q v = .fin v' h' c' ∧ ∀ ρ : Rho, ∃ r, den ρ v = some r ∧ ∀ w, (binOp op T (.int k m) (.int k n)).run P w = .ok r w)
    (hs : ∀ a b q v' h' c', s a b q = .fin v' h' c' → ∃ v, q v = .fin v' h' c' ∧ ∀ ρ : Rho, ∃ r, den ρ v = some r ∧ ∀ w, (binOp op T (.int k a) (.int k b)).run P w = .ok r w) : BFok P (b2 (kN k) f s) op T := by
  intro x y q v' h' c' H
  have guard : ∀ (a b : Int) w (s t : Operand), (eqGuard op T s t (.int k a) (.int k b)).run P w = .ok () w := by
    intro a b w s t
    unfold eqGuard
    cases op <;> rfl
  rcases b2_fin H with ⟨m, n, rfl, rfl, e⟩ | ⟨a, b, e1, e2, e⟩
  · obtain ⟨v, g1, g2⟩ := hf m n q v' h' c' e
    refine ⟨v, g1, fun ρ X Y hX hY => ?_⟩
    obtain ⟨r, g3, g4⟩ := g2 ρ
    have d1 := nat_den rfl hX
    have d2 := nat_den rfl hY
    rw [kd_kN] at d1 d2
    exact ⟨r, g3, fun w s t => by rw [d1, d2, Sem.run_bind, guard]; exact g4 w⟩
  · obtain ⟨v, g1, g2⟩ := hs a b q v' h' c' e
    refine ⟨v, g1, fun ρ X Y hX hY => ?_⟩
    obtain ⟨r, g3, g4⟩ := g2 ρ
    have d1 := int_den (ρ := ρ) e1
    have d2 := int_den (ρ := ρ) e2
    rw [kd_kN] at d1 d2
    rw [hX] at d1; rw [hY] at d2
    cases d1; cases d2
    exact ⟨r, g3, fun w s t => by rw [Sem.run_bind, guard]; exact g4 w⟩
section
variable {P : Program} {T : TypeId} (k : IntKind)
theorem vOf_den' (ρ : Rho) (n : Int) : den ρ (vOf (kN k) n) = some (.int k n) := by rw [vOf_den, kd_kN]
theorem ok_add : BFok P (aAdd (kN k) (hiN k)) .add T := by
  refine bf_int (fun m n q v' h' c' e => ?_) (fun a b q v' h' c' e => ?_)
  · rw [wrN_eq] at e
    exact ⟨_, e, fun ρ => ⟨_, vOf_den' k ρ _, fun w => by simp [binOp, Op.intArith]⟩⟩
  · rw [wr_eq, kd_kN] at e
    exact ⟨_, e, fun ρ => ⟨_, vOf_den' k ρ _, fun w => by simp [binOp, Op.intArith]⟩⟩
theorem ok_sub : BFok P (aSub (kN k) (hiN k)) .sub T := by
  have run : ∀ (a b : Int) w, (binOp .sub T (.int k a) (.int k b)).run P w = .ok (.int k (k.wrap (a - b))) w := fun a b w => by simp [binOp, Op.intArith]
  refine bf_int (fun m n q v' h' c' e => ?_) (fun a b q v' h' c' e => ?_)
  · cases hb : Nat.ble n m with
    | true =>
      rw [hb, ifT_true rfl, wrN_eq] at e
      have := Nat.le_of_ble_eq_true hb
      have e2 : ((Nat.sub m n : Nat) : Int) = (m : Int) - n := by show ((m - n : Nat) : Int) = _; omega
      rw [e2] at e
      exact ⟨_, e, fun ρ => ⟨_, vOf_den' k ρ _, run _ _⟩⟩
    | false =>
      rw [hb, ifT_false rfl, wr_eq, kd_kN] at e
      exact ⟨_, e, fun ρ => ⟨_, vOf_den' k ρ _, run _ _⟩⟩
  · rw [wr_eq, kd_kN] at e
    exact ⟨_, e, fun ρ => ⟨_, vOf_den' k ρ _, run _ _⟩⟩
theorem ok_mul : BFok P (aMul (kN k) (hiN k)) .mul T := by
  refine bf_int (fun m n q v' h' c' e => ?_) (fun a b q v' h' c' e => ?_)
  · rw [wrN_eq] at e
    exact ⟨_, e, fun ρ => ⟨_, vOf_den' k ρ _, fun w => by simp [binOp, Op.intArith]⟩⟩
  · rw [wr_eq, kd_kN] at e
    exact ⟨_, e, fun ρ => ⟨_, vOf_den' k ρ _, fun w => by simp [binOp, Op.intArith]⟩⟩
theorem ifF_fin {b : Bool} {x : R} {n : Nat} {w : V} {h : HP} {c : Nat} (H : ifT b (.bad n) x = .fin w h c) : b = false ∧ x = .fin w h c := by
  cases b
  · exact ⟨rfl, H⟩
  · cases H
theorem ok_quo : BFok P (aQuo (kN k) (hiN k)) .quo T := by
  refine bf_int (fun m n q v' h' c' e => ?_) (fun a b q v' h' c' e => ?_)
  · obtain ⟨e1, e2⟩ := ifF_fin e
    rw [wrN_eq] at e2
    have hn : ¬ n = 0 := Nat.ne_of_beq_eq_false e1
    refine ⟨_, e2, fun ρ => ⟨_, vOf_den' k ρ _, fun w => ?_⟩⟩
    have : ((m : Int).tdiv n) = ((Nat.div m n : Nat) : Int) := rfl
    simp [binOp, Op.intDiv, hn, this]
  · obtain ⟨e1, e2⟩ := ifF_fin e
    rw [wr_eq, kd_kN] at e2
    have hn : ¬ b = 0 := by rw [ieq_eq] at e1; simpa using e1
    exact ⟨_, e2, fun ρ => ⟨_, vOf_den' k ρ _, fun w => by simp [binOp, Op.intDiv, hn]⟩⟩
theorem ok_rem : BFok P (aRem (kN k)) .rem T := by
  refine bf_int (fun m n q v' h' c' e => ?_) (fun a b q v' h' c' e => ?_)
  · obtain ⟨e1, e2⟩ := ifF_fin e
    rw [fN_eq] at e2
    have hn : ¬ n = 0 := Nat.ne_of_beq_eq_false e1
    refine ⟨_, e2, fun ρ => ⟨_, vOf_den' k ρ (.ofNat (Nat.mod m n)), fun w => ?_⟩⟩
    have : ((m : Int).tmod n) = ((Nat.mod m n : Nat) : Int) := rfl
    simp [binOp, Op.intDiv, hn, this]
  · obtain ⟨e1, e2⟩ := ifF_fin e
    rw [vI_eq] at e2
    have hn : ¬ b = 0 := by rw [ieq_eq] at e1; simpa using e1
    exact ⟨_, e2, fun ρ => ⟨_, vOf_den' k ρ (a.tmod b), fun w => by simp [binOp, Op.intDiv, hn]⟩⟩
theorem bi_pow : biN k = 2 ^ k.bits := by cases k <;> rfl
theorem ok_and : BFok P (aBit Nat.land (kN k) (hiN k) (biN k)) .and T := by
  refine bf_int (fun m n q v' h' c' e => ?_) (fun a b q v' h' c' e => ?_)
  · rw [wrN_eq] at e
    refine ⟨_, e, fun ρ => ⟨_, vOf_den' k ρ _, fun w => ?_⟩⟩
    rw [bi_pow]
    simp [binOp, Op.intBits, BitVec.ofInt_natCast]
    rfl
  · cases e
theorem ok_or : BFok P (aBit Nat.lor (kN k) (hiN k) (biN k)) .or T := by
  refine bf_int (fun m n q v' h' c' e => ?_) (fun a b q v' h' c' e => ?_)
  · rw [wrN_eq] at e
    refine ⟨_, e, fun ρ => ⟨_, vOf_den' k ρ _, fun w => ?_⟩⟩
    rw [bi_pow]
    simp [binOp, Op.intBits, BitVec.ofInt_natCast]
    rfl
  · cases e
theorem ok_xor : BFok P (aBit Nat.xor (kN k) (hiN k) (biN k)) .xor T := by
  refine bf_int (fun m n q v' h' c' e => ?_) (fun a b q v' h' c' e => ?_)
  · rw [wrN_eq] at e
    refine ⟨_, e, fun ρ => ⟨_, vOf_den' k ρ _, fun w => ?_⟩⟩
    rw [bi_pow]
    simp [binOp, Op.intBits, BitVec.ofInt_natCast]
    rfl
  · cases e
theorem ok_andNot : BFok P (aBit (anN (biN k)) (kN k) (hiN k) (biN k)) .andNot T := by
  refine bf_int (fun m n q v' h' c' e => ?_) (fun a b q v' h' c' e => ?_)
  · rw [wrN_eq] at e
    refine ⟨_, e, fun ρ => ⟨_, vOf_den' k ρ _, fun w => ?_⟩⟩
    have hb : ((Nat.land (Nat.mod m (biN k)) (Nat.sub (Nat.sub (biN k) 1) (Nat.mod n (biN k))) : Nat) : Int) = (((BitVec.ofInt k.bits (m : Int)) &&& ~~~(BitVec.ofInt k.bits (n : Int))).toNat : Int) := by
      rw [BitVec.toNat_and, BitVec.toNat_not, BitVec.ofInt_natCast, BitVec.ofInt_natCast, BitVec.toNat_ofNat, BitVec.toNat_ofNat, bi_pow]
      rfl
    have hb' : ((anN (biN k) (Nat.mod m (biN k)) (Nat.mod n (biN k)) : Nat) : Int) = (((BitVec.ofInt k.bits (m : Int)) &&& ~~~(BitVec.ofInt k.bits (n : Int))).toNat : Int) := hb
    rw [hb']
    simp only [binOp, Op.intBits]
    simp
  · cases e
theorem run_cmp (op : BinOp) (a b : Int) (w : World) (r : Bool) (h : (op = .eql ∧ r = (a == b)) ∨ (op = .neq ∧ r = (a != b)) ∨ (op = .lss ∧ r = decide (a < b)) ∨ (op = .leq ∧ r = decide (a ≤ b)) ∨ (op = .gtr ∧ r = decide (a > b)) ∨ (op = .geq ∧ r = decide (a ≥ b))) :
    (binOp op T (.int k a) (.int k b)).run P w = .ok (.bool r) w := by
  rcases h with ⟨rfl, rfl⟩ | ⟨rfl, rfl⟩ | ⟨rfl, rfl⟩ | ⟨rfl, rfl⟩ | ⟨rfl, rfl⟩ | ⟨rfl, rfl⟩ <;> simp [binOp, Op.intCmp]
theorem ok_eq : BFok P (aEq (kN k)) .eql T := by
  refine bf_int (fun m n q v' h' c' e => ?_) (fun a b q v' h' c' e => ?_) <;> rw [bol_eq] at e <;> refine ⟨_, e, fun ρ => ⟨_, rfl, fun w => run_cmp k _ _ _ w _ (.inl ⟨rfl, ?_⟩)⟩⟩
  · rw [Bool.eq_iff_iff]; simp; omega
  · exact ieq_eq a b
theorem ok_ne : BFok P (aNe (kN k)) .neq T := by
  refine bf_int (fun m n q v' h' c' e => ?_) (fun a b q v' h' c' e => ?_) <;> rw [nbl_eq] at e <;> refine ⟨_, e, fun ρ => ⟨_, rfl, fun w => run_cmp k _ _ _ w _ (.inr (.inl ⟨rfl, ?_⟩))⟩⟩
  · have : Nat.beq m n = ((m : Int) == n) := by rw [Bool.eq_iff_iff]; simp; omega
    rw [this]; rfl
  · rw [ieq_eq]; rfl
theorem ok_lt : BFok P (aLt (kN k)) .lss T := by
  refine bf_int (fun m n q v' h' c' e => ?_) (fun a b q v' h' c' e => ?_)
  · rw [nbl_eq] at e
    refine ⟨_, e, fun ρ => ⟨_, rfl, fun w => run_cmp k _ _ _ w _ (.inr (.inr (.inl ⟨rfl, ?_⟩)))⟩⟩
    rw [Bool.eq_iff_iff]; simp [ble_false]
  · rw [bol_eq] at e
    exact ⟨_, e, fun ρ => ⟨_, rfl, fun w => run_cmp k _ _ _ w _ (.inr (.inr (.inl ⟨rfl, ilt_eq a b⟩)))⟩⟩
theorem ok_le : BFok P (aLe (kN k)) .leq T := by
  refine bf_int (fun m n q v' h' c' e => ?_) (fun a b q v' h' c' e => ?_)
  · rw [bol_eq] at e
    refine ⟨_, e, fun ρ => ⟨_, rfl, fun w => run_cmp k _ _ _ w _ (.inr (.inr (.inr (.inl ⟨rfl, ?_⟩))))⟩⟩
    rw [Bool.eq_iff_iff]; simp
  · rw [nbl_eq, ilt_eq] at e
    refine ⟨_, e, fun ρ => ⟨_, rfl, fun w => run_cmp k _ _ _ w _ (.inr (.inr (.inr (.inl ⟨rfl, ?_⟩))))⟩⟩
    rw [Bool.eq_iff_iff]; simp
theorem ok_gt : BFok P (aGt (kN k)) .gtr T := by
  refine bf_int (fun m n q v' h' c' e => ?_) (fun a b q v' h' c' e => ?_)
  · rw [nbl_eq] at e
    refine ⟨_, e, fun ρ => ⟨_, rfl, fun w => run_cmp k _ _ _ w _ (.inr (.inr (.inr (.inr (.inl ⟨rfl, ?_⟩)))))⟩⟩
    rw [Bool.eq_iff_iff]; simp [ble_false]
  · rw [bol_eq, ilt_eq] at e
    exact ⟨_, e, fun ρ => ⟨_, rfl, fun w => run_cmp k _ _ _ w _ (.inr (.inr (.inr (.inr (.inl ⟨rfl, rfl⟩)))))⟩⟩
theorem ok_ge : BFok P (aGe (kN k)) .geq T := by
  refine bf_int (fun m n q v' h' c' e => ?_) (fun a b q v' h' c' e => ?_)
  · rw [bol_eq] at e
    refine ⟨_, e, fun ρ => ⟨_, rfl, fun w => run_cmp k _ _ _ w _ (.inr (.inr (.inr (.inr (.inr ⟨rfl, ?_⟩)))))⟩⟩
    rw [Bool.eq_iff_iff]; simp
  · rw [nbl_eq, ilt_eq] at e
    refine ⟨_, e, fun ρ => ⟨_, rfl, fun w => run_cmp k _ _ _ w _ (.inr (.inr (.inr (.inr (.inr ⟨rfl, ?_⟩)))))⟩⟩
    rw [Bool.eq_iff_iff]; simp
theorem sh_bits : sh k = k.bits := by cases k <;> rfl
theorem noGuard {op : BinOp} (h : op = .shl ∨ op = .shr ∨ op = .add) (X Y : Value) (s t : Operand) (w : World) : (eqGuard op T s t X Y).run P w = .ok () w := by
  rcases h with rfl | rfl | rfl <;> rfl
theorem ok_shl : BFok P (aShl (kN k) (hiN k) (sh k)) .shl T := by
  intro x y q v' h' c' H
  obtain ⟨k', m, e1, e2⟩ := asN_fin H
  obtain ⟨k2, n, e3, e4⟩ := asN_fin e2
  obtain ⟨e5, e6⟩ := ifT_fin e4
  obtain ⟨e7, e8⟩ := ifT_fin e6
  rw [wrN_eq] at e8
  have hk : k' = kN k := Nat.eq_of_beq_eq_true e5
  have hn := Nat.le_of_ble_eq_true e7
  rw [sh_bits] at hn
  refine ⟨_, e8, fun ρ X Y hX hY => ⟨_, vOf_den' k ρ _, fun w s t => ?_⟩⟩
  have d1 := nat_den e1 hX
  have d2 := nat_den e3 hY
  rw [hk, kd_kN] at d1
  rw [d1, d2, Sem.run_bind, noGuard (.inl rfl)]
  have : ((Nat.shiftLeft m n : Nat) : Int) = (m : Int) * 2 ^ n := by show ((m <<< n : Nat) : Int) = _; rw [Nat.shiftLeft_eq]; simp
  rw [this]
  simp [binOp, Op.shift, Nat.min_eq_left hn, show ¬ (n : Int) < 0 by omega]
theorem ok_shr : BFok P (aShr (kN k) (sh k)) .shr T := by
  intro x y q v' h' c' H
  obtain ⟨k', m, e1, e2⟩ := asN_fin H
  obtain ⟨k2, n, e3, e4⟩ := asN_fin e2
  obtain ⟨e5, e6⟩ := ifT_fin e4
  obtain ⟨e7, e8⟩ := ifT_fin e6
  rw [fN_eq] at e8
  have hk : k' = kN k := Nat.eq_of_beq_eq_true e5
  have hn := Nat.le_of_ble_eq_true e7
  rw [sh_bits] at hn
  refine ⟨_, e8, fun ρ X Y hX hY => ⟨.int k ((Nat.shiftRight m n : Nat) : Int), by simp [den, kd_kN], fun w s t => ?_⟩⟩
  have d1 := nat_den e1 hX
  have d2 := nat_den e3 hY
  rw [hk, kd_kN] at d1
  rw [d1, d2, Sem.run_bind, noGuard (.inr (.inl rfl))]
  have : ((Nat.shiftRight m n : Nat) : Int) = (m : Int).fdiv (2 ^ n) := by
    show ((m >>> n : Nat) : Int) = _
    rw [Nat.shiftRight_eq_div_pow, Int.fdiv_eq_ediv_of_nonneg _ (by exact Int.le_of_lt (Int.pow_pos (by decide)))]
    simp
  rw [this]
  simp [binOp, Op.shift, Nat.min_eq_left hn, show ¬ (n : Int) < 0 by omega]
end
theorem cAr_ok {P : Program} {T : TypeId} {k : IntKind} {op : BinOp} {f : BF} (h : cAr op k = .mk f) : BFok P f op T := by
  cases op <;> simp only [cAr] at h <;> first | cases h | skip
  · exact ok_add k
  · exact ok_sub k
  · exact ok_mul k
  · exact ok_quo k
  · exact ok_rem k
  · exact ok_and k
  · exact ok_or k
  · exact ok_xor k
  · exact ok_shl k
  · exact ok_shr k
  · exact ok_andNot k
  · exact ok_eq k
  · exact ok_ne k
  · exact ok_lt k
  · exact ok_le k
  · exact ok_gt k
  · exact ok_ge k
end Ev
end
section
namespace Ev
open Go Go.RowKit
set_option linter.unusedVariables false
set_option linter.unusedSimpArgs false
theorem seq_eq : ∀ a b : List Nat, seq a b = (a.map UInt8.ofNat == b.map UInt8.ofNat)
  | [], [] => rfl
  | [], _ :: _ => rfl
  | _ :: _, [] => rfl
  | x :: a, y :: b => by
    show Bool.rec (motive := fun _ => Bool) false (seq a b) (Nat.beq (x % 256) (y % 256)) = _
    rw [seq_eq a b]
    simp only [List.map_cons, List.cons_beq_cons]
    have : (UInt8.ofNat x == UInt8.ofNat y) = Nat.beq (x % 256) (y % 256) := by
      rw [Bool.eq_iff_iff]
      simp only [beq_iff_eq, Nat.beq_eq_true_eq, Nat.beq_eq]
      constructor
      · intro h
        have := congrArg UInt8.toNat h
        simpa using this
      · intro h
        exact UInt8.toNat_inj.1 (by simpa using h)
    rw [this]
    cases Nat.beq (x % 256) (y % 256) <;> rfl
theorem str_list (l : List Nat) : (str l).toList = l.map UInt8.ofNat := by rw [ByteArray.toList_eq]; simp [str]
theorem seq_str (a b : List Nat) : seq a b = ((str a).toList == (str b).toList) := by rw [seq_eq, str_list, str_list]
theorem str_append (a b : List Nat) : str (a ++ b) = str a ++ str b := by
  apply ByteArray.ext
  simp [str, ByteArray.data_append]
section
variable {X : Spx} {P : Program} {nt : Nat} {o : Oper} {d : DS}
theorem str_guard (op : BinOp) (T : TypeId) (a b : ByteArray) (s t : Operand) (w : World) : (eqGuard op T s t (.string a) (.string b)).run P w = .ok () w := by
  unfold eqGuard; cases op <;> rfl
theorem cSr_ok {T : TypeId} {op : BinOp} {f : BF} (h : cSr op = .mk f) : BFok P f op T := by
  cases op <;> simp only [cSr] at h <;> first | cases h | skip
  · intro x y q v' h' c' H
    obtain ⟨a, e1, e2⟩ := asS_fin H
    obtain ⟨b, e3, e4⟩ := asS_fin e2
    obtain ⟨e5, e6⟩ := ifT_fin e4
    rw [fL_eq, app_eq] at e6
    refine ⟨_, e6, fun ρ X Y hX hY => ⟨.string (str a ++ str b), by simp [den, str_append], fun w s t => ?_⟩⟩
    rw [str_den e1 hX, str_den e3 hY, Sem.run_bind, str_guard]
    have hle : ¬ (((str a).size + (str b).size : Nat) : Int) > IntKind.i64.max := by
      have := Nat.le_of_ble_eq_true e5
      rw [len_eq, len_eq] at this
      have hm : IntKind.i64.max = 9223372036854775807 := by decide
      rw [str_size, str_size, hm]
      have : a.length + b.length ≤ 9223372036854775807 := this
      omega
    simp only [Result.andThen_ok]
    simp only [binOp, Op.stringOp]
    rw [if_neg hle]; rfl
  · intro x y q v' h' c' H
    obtain ⟨a, e1, e2⟩ := asS_fin H
    obtain ⟨b, e3, e4⟩ := asS_fin e2
    rw [bol_eq, seq_str] at e4
    refine ⟨_, e4, fun ρ X Y hX hY => ⟨_, rfl, fun w s t => ?_⟩⟩
    rw [str_den e1 hX, str_den e3 hY, Sem.run_bind, str_guard]; rfl
  · intro x y q v' h' c' H
    obtain ⟨a, e1, e2⟩ := asS_fin H
    obtain ⟨b, e3, e4⟩ := asS_fin e2
    rw [nbl_eq, seq_str] at e4
    refine ⟨_, e4, fun ρ X Y hX hY => ⟨_, rfl, fun w s t => ?_⟩⟩
    rw [str_den e1 hX, str_den e3 hY, Sem.run_bind, str_guard]; rfl
theorem snd_ar {op : BinOp} {T T' : TypeId} {x y : Operand} {y1 y2 : OP} {f : BF} (hop : o.op = .binOp op T x y T') (hd : cDst nt o.dst = .mk d) (h1 : cOpd nt x = .mk y1) (h2 : cOpd nt y = .mk y2) (hf : BFok P f op T) : VSnd X P nt d (fAr d f y1 y2) o := by
  refine VSnd.of (by rw [hop]; simp) hd fun cal t h c df k v' h' c' e => ?_
  obtain ⟨v, e1, e2⟩ := hf _ _ _ _ _ _ e
  refine ⟨v, e1, fun w0 ρ a w hR hT => ?_⟩
  obtain ⟨r, g1, g2⟩ := e2 ρ _ _ (opd_den h1 hT) (opd_den h2 hT)
  refine ⟨r, g1, ?_⟩
  have := g2 w x y
  simp only [execOp, hop]
  rw [Sem.run_bind, this]; rfl
theorem snd_ng {T : TypeId} {x : Operand} {y : OP} (hop : o.op = .unOp .neg T x) (hd : cDst nt o.dst = .mk d) (h1 : cOpd nt x = .mk y) : VSnd X P nt d (fNg d y) o := by
  refine VSnd.of (by rw [hop]; simp) hd fun cal t h c df k v' h' c' e => ?_
  obtain ⟨i, n, e1, e2⟩ := asI_fin e
  rw [wr_eq] at e2
  refine ⟨_, e2, fun w0 ρ a w hR hT => ⟨_, vOf_den ρ _ _, ?_⟩⟩
  have d1 := int_den (ρ := ρ) e1
  rw [opd_den h1 hT] at d1
  cases hv : a.eval x <;> rw [hv] at d1 <;> cases d1
  have : (Int.sub (.ofNat 0) n) = 0 - n := rfl
  rw [this]
  simp [execOp, hop, hv, Op.unary, Op.intArith]
theorem snd_cv {s T : TypeId} {x : Operand} {y : OP} {k0 k : IntKind} (hop : o.op = .convert s T x) (hd : cDst nt o.dst = .mk d) (h1 : cOpd nt x = .mk y) (hs : und (types P) s = some (.int k0)) (hT : und (types P) T = some (.int k)) : VSnd X P nt d (fCv d (kN k) (hiN k) y) o := by
  have run : ∀ (a : Act) (w : World) (j : IntKind) (n : Int), a.eval x = .int j n → (execOp a.eval o).run P w = .ok (.value (.int k (k.wrap n))) w := by
    intro a w j n hv
    simp [execOp, hop, hv, convert, run_underlying (und_under hs).1, run_underlying (und_under hT).1, Conv.intToInt]
  refine VSnd.of (by rw [hop]; simp) hd fun cal t h c df k' v' h' c' e => ?_
  have e' : cvI (kN k) (hiN k) (y t) (fun v => d v t fun t => k' t h c df) = .fin v' h' c' := e
  unfold cvI at e'
  rw [asX_eq] at e'
  split at e'
  · rename_i j m hy
    rw [wrN_eq] at e'
    refine ⟨_, e', fun w0 ρ a w hR hTR => ⟨_, vOf_den' k ρ _, ?_⟩⟩
    exact run a w _ _ (nat_den hy (opd_den h1 hTR))
  · obtain ⟨i, n, e1, e2⟩ := asI_fin e'
    rw [wr_eq, kd_kN] at e2
    refine ⟨_, e2, fun w0 ρ a w hR hTR => ⟨_, vOf_den' k ρ _, ?_⟩⟩
    have d1 := int_den (ρ := ρ) e1
    rw [opd_den h1 hTR] at d1
    cases d2 : a.eval x <;> rw [d2] at d1 <;> cases d1
    exact run a w _ _ d2
theorem snd_cs {s T : TypeId} {x : Operand} {y : OP} (hop : o.op = .convert s T x) (hd : cDst nt o.dst = .mk d) (h1 : cOpd nt x = .mk y) (hs : und (types P) s = some .string) (hT : und (types P) T = some .string) : VSnd X P nt d (fCs d y) o := by
  refine VSnd.of (by rw [hop]; simp) hd fun cal t h c df k' v' h' c' e => ?_
  obtain ⟨l, e1, e2⟩ := asS_fin e
  refine ⟨_, e2, fun w0 ρ a w hR hTR => ⟨.string (str l), by simp [den], ?_⟩⟩
  have hv := str_den e1 (opd_den h1 hTR)
  simp [execOp, hop, hv, convert, run_underlying (und_under hs).1, run_underlying (und_under hT).1]
theorem snd_lnS {T : TypeId} {x : Operand} {y : OP} {cc : Call} (hop : o.op = .call cc) (hcc : cc.callee = .builtin .len) (ha : cc.args.toList = [x]) (hat : cc.argTypes.toList = [T]) (hd : cDst nt o.dst = .mk d) (h1 : cOpd nt x = .mk y) (hT : und (types P) T = some .string) : VSnd X P nt d (fLnS d y) o := by
  refine VSnd.of (by rw [hop]; simp) hd fun cal t h c df k' v' h' c' e => ?_
  obtain ⟨l, e1, e2⟩ := asS_fin e
  rw [fN_eq, len_eq] at e2
  refine ⟨_, e2, fun w0 ρ a w hR hTR => ⟨.int .i64 l.length, by simp [den]; rfl, ?_⟩⟩
  have hv := str_den e1 (opd_den h1 hTR)
  have ha' : cc.args = #[x] := Array.toList_inj.1 (by simpa using ha)
  have hat' : cc.argTypes = #[T] := Array.toList_inj.1 (by simpa using hat)
  simp [execOp, hop, hcc, resolve, invoke, builtin, ha', hat', hv, Builtin.len_, run_underlying (und_under hT).1, goInt, str_size]
theorem snd_lnL {T E : TypeId} {x : Operand} {y : OP} {cc : Call} (hop : o.op = .call cc) (hcc : cc.callee = .builtin .len) (ha : cc.args.toList = [x]) (hat : cc.argTypes.toList = [T]) (hd : cDst nt o.dst = .mk d) (h1 : cOpd nt x = .mk y) (hT : und (types P) T = some (.slice E)) : VSnd X P nt d (fLnL d y) o := by
  refine VSnd.of (by rw [hop]; simp) hd fun cal t h c df k' v' h' c' e => ?_
  have ha' : cc.args = #[x] := Array.toList_inj.1 (by simpa using ha)
  have hat' : cc.argTypes = #[T] := Array.toList_inj.1 (by simpa using hat)
  rcases asL_fin e with ⟨e1, e2⟩ | ⟨b, r, n, q, s, e1, e2⟩
  · refine ⟨_, e2, fun w0 ρ a w hR hTR => ⟨.int .i64 0, by simp [den]; rfl, ?_⟩⟩
    have hv := opd_den h1 hTR
    rw [e1] at hv
    simp only [den, Option.some.injEq] at hv
    simp [execOp, hop, hcc, resolve, invoke, builtin, ha', hat', ← hv, Builtin.len_, run_underlying (und_under hT).1, goInt]
  · refine ⟨_, e2, fun w0 ρ a w hR hTR => ⟨.int .i64 n, by simp [den]; rfl, ?_⟩⟩
    obtain ⟨p, _, hv⟩ := sl_den e1 (opd_den h1 hTR)
    simp [execOp, hop, hcc, resolve, invoke, builtin, ha', hat', hv, Builtin.len_, run_underlying (und_under hT).1, goInt]
theorem snd_lna {T : TypeId} {x : Operand} {y : OP} {cc : Call} {n : Nat} (hop : o.op = .call cc) (hcc : cc.callee = .builtin .len) (ha : cc.args.toList = [x]) (hat : cc.argTypes.toList = [T]) (hd : cDst nt o.dst = .mk d) (hT : (∃ E, und (types P) T = some (.array n E)) ∨ ∃ r E, und (types P) T = some (.pointer r) ∧ und (types P) r = some (.array n E)) : VSnd X P nt d (fLna d n) o := by
  refine VSnd.of (by rw [hop]; simp) hd fun cal t h c df k' v' h' c' e => ⟨_, e, fun w0 ρ a w hR hTR => ⟨.int .i64 n, by simp [den]; rfl, ?_⟩⟩
  have ha' : cc.args = #[x] := Array.toList_inj.1 (by simpa using ha)
  have hat' : cc.argTypes = #[T] := Array.toList_inj.1 (by simpa using hat)
  rcases hT with ⟨E, hT⟩ | ⟨r, E, hT, hr⟩
  · simp [execOp, hop, hcc, resolve, invoke, builtin, ha', hat', Builtin.len_, run_underlying (und_under hT).1, goInt]
  · simp [execOp, hop, hcc, resolve, invoke, builtin, ha', hat', Builtin.len_, run_underlying (und_under hT).1, run_underlying (und_under hr).1, goInt]
theorem snd_cp {T E : TypeId} {x : Operand} {y : OP} {cc : Call} (hop : o.op = .call cc) (hcc : cc.callee = .builtin .cap) (ha : cc.args.toList = [x]) (hat : cc.argTypes.toList = [T]) (hd : cDst nt o.dst = .mk d) (h1 : cOpd nt x = .mk y) (hT : und (types P) T = some (.slice E)) : VSnd X P nt d (fCp d y) o := by
  refine VSnd.of (by rw [hop]; simp) hd fun cal t h c df k' v' h' c' e => ?_
  have ha' : cc.args = #[x] := Array.toList_inj.1 (by simpa using ha)
  have hat' : cc.argTypes = #[T] := Array.toList_inj.1 (by simpa using hat)
  rcases asL_fin e with ⟨e1, e2⟩ | ⟨b, r, n, q, s, e1, e2⟩
  · refine ⟨_, e2, fun w0 ρ a w hR hTR => ⟨.int .i64 0, by simp [den]; rfl, ?_⟩⟩
    have hv := opd_den h1 hTR
    rw [e1] at hv
    simp only [den, Option.some.injEq] at hv
    simp [execOp, hop, hcc, resolve, invoke, builtin, ha', hat', ← hv, Builtin.cap_, run_underlying (und_under hT).1, goInt]
  · obtain ⟨e3, e4⟩ := ifF_fin e2
    refine ⟨_, e4, fun w0 ρ a w hR hTR => ⟨.int .i64 q, by simp [den]; rfl, ?_⟩⟩
    obtain ⟨p, _, hv⟩ := sl_den e1 (opd_den h1 hTR)
    subst e3
    simp [execOp, hop, hcc, resolve, invoke, builtin, ha', hat', hv, Builtin.cap_, run_underlying (und_under hT).1, goInt]
theorem snd_mx {x z : Operand} {y1 y2 : OP} {cc : Call} (hop : o.op = .call cc) (hcc : cc.callee = .builtin .max) (ha : cc.args.toList = [x, z]) (hd : cDst nt o.dst = .mk d) (h1 : cOpd nt x = .mk y1) (h2 : cOpd nt z = .mk y2) : VSnd X P nt d (fMx d y1 y2) o := by
  refine VSnd.of (by rw [hop]; simp) hd fun cal t h c df k' v' h' c' e => ?_
  have ha' : cc.args = #[x, z] := Array.toList_inj.1 (by simpa using ha)
  obtain ⟨i, m, e1, e2⟩ := asI_fin e
  obtain ⟨j, n, e3, e4⟩ := asI_fin e2
  rw [vI_eq] at e4
  refine ⟨_, e4, fun w0 ρ a w hR hTR => ⟨.int (kd i) (if m < n then n else m), ?_, ?_⟩⟩
  · have := vOf_den ρ i (ifT (ilt m n) n m)
    rw [ilt_eq] at this
    rw [ilt_eq]
    by_cases hlt : m < n
    · rw [show decide (m < n) = true by simpa using hlt] at this ⊢
      rw [if_pos hlt]; exact this
    · rw [show decide (m < n) = false by simpa using hlt] at this ⊢
      rw [if_neg hlt]; exact this
  · have d1 := int_den (ρ := ρ) e1
    have d2 := int_den (ρ := ρ) e3
    rw [opd_den h1 hTR] at d1
    rw [opd_den h2 hTR] at d2
    have d1 := Option.some.inj d1
    have d2 := Option.some.inj d2
    simp [execOp, hop, hcc, resolve, invoke, builtin, ha', d1, d2, Builtin.max_, Builtin.max2]
theorem snd_mn {x z : Operand} {y1 y2 : OP} {cc : Call} (hop : o.op = .call cc) (hcc : cc.callee = .builtin .min) (ha : cc.args.toList = [x, z]) (hd : cDst nt o.dst = .mk d) (h1 : cOpd nt x = .mk y1) (h2 : cOpd nt z = .mk y2) : VSnd X P nt d (fMn d y1 y2) o := by
  refine VSnd.of (by rw [hop]; simp) hd fun cal t h c df k' v' h' c' e => ?_
  have ha' : cc.args = #[x, z] := Array.toList_inj.1 (by simpa using ha)
  obtain ⟨i, m, e1, e2⟩ := asI_fin e
  obtain ⟨j, n, e3, e4⟩ := asI_fin e2
  rw [vI_eq] at e4
  refine ⟨_, e4, fun w0 ρ a w hR hTR => ⟨.int (kd i) (if n < m then n else m), ?_, ?_⟩⟩
  · have := vOf_den ρ i (ifT (ilt n m) n m)
    rw [ilt_eq] at this
    rw [ilt_eq]
    by_cases hlt : n < m
    · rw [show decide (n < m) = true by simpa using hlt] at this ⊢
      rw [if_pos hlt]; exact this
    · rw [show decide (n < m) = false by simpa using hlt] at this ⊢
      rw [if_neg hlt]; exact this
  · have d1 := int_den (ρ := ρ) e1
    have d2 := int_den (ρ := ρ) e3
    rw [opd_den h1 hTR] at d1
    rw [opd_den h2 hTR] at d2
    have d1 := Option.some.inj d1
    have d2 := Option.some.inj d2
    simp [execOp, hop, hcc, resolve, invoke, builtin, ha', d1, d2, Builtin.min_, Builtin.min2]
end
end Ev
end
