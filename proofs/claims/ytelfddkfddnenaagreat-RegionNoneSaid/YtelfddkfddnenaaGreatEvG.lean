/- Cells laid and read; operands; what an operation is asked for. -/
import Derived.Test.YtelfddkfddnenaaGreatEvF
import Derived.Laws.Cells
namespace Ev
open Go Go.RowKit
set_option linter.unusedVariables false
set_option linter.unusedSimpArgs false
theorem cellsK_eq {z : Z} {t : Ce} : ∀ {n o : Nat} {k : List V → R}, cellsK z t n o k = k ((List.range n).map fun j => cell z t (o + j))
  | 0, o, k => rfl
  | n + 1, o, k => by
    show fV (cell z t o) (fun v => fN (Nat.add o 1) fun o => cellsK z t n o fun l => k (v :: l)) = _
    rw [fV_eq, fN_eq, cellsK_eq]
    congr 1
    rw [List.range_succ_eq_map]
    simp only [List.map_cons, List.map_map, Nat.add_zero, List.cons.injEq, true_and]
    refine List.map_congr_left fun j _ => ?_
    show cell z t (o + 1 + j) = cell z t (o + (j + 1))
    congr 1; omega
/-- cells laid from o on -/
noncomputable def Ce.sets (t : Ce) (o : Nat) : List V → Ce
  | [] => t
  | v :: l => (t.set o v).sets (o + 1) l
theorem Ce.cap_sets : ∀ (l : List V) (t : Ce) (o : Nat), (t.sets o l).cap = t.cap
  | [], _, _ => rfl
  | v :: l, t, o => (Ce.cap_sets l _ _).trans (Ce.cap_set t o v)
theorem cget_sets : ∀ (l : List V) (t : Ce) (o i : Nat), o + l.length ≤ t.cap → i < t.cap → cget (t.sets o l) i = if o ≤ i ∧ i < o + l.length then l.getD (i - o) .u else cget t i
  | [], t, o, i, _, _ => by rw [if_neg (by simp)]; rfl
  | v :: l, t, o, i, h, hi => by
    simp only [List.length_cons] at h
    show cget ((t.set o v).sets (o + 1) l) i = _
    rw [cget_sets l _ _ _ (by rw [Ce.cap_set]; omega) (by rw [Ce.cap_set]; omega)]
    by_cases h1 : i = o
    · subst h1
      rw [if_neg (by omega), cget_set v t (by omega) hi, if_pos rfl, if_pos (by simp)]
      simp
    · by_cases h2 : o ≤ i ∧ i < o + (v :: l).length
      · simp only [List.length_cons] at h2
        rw [if_pos (by omega), if_pos (by simp only [List.length_cons]; omega), show i - o = (i - (o + 1)) + 1 by omega]
        simp
      · simp only [List.length_cons] at h2
        rw [if_neg (by omega), if_neg (by simp only [List.length_cons]; omega), cget_set v t (by omega) hi, if_neg h1]
theorem upN_ex {α : Type} (v : α) (t : A6 α) (n : Nat) : ∃ t', ∀ k, upN n v t k = k t' := by
  cases t
  by_cases h : n < 16
  · exact ⟨_, fun k => upN_s _ v k h⟩
  · obtain ⟨m, rfl⟩ : ∃ m, n = m + 15 := ⟨n - 15, by omega⟩
    exact ⟨_, fun k => rfl⟩
theorem cset_ex (v : V) (t : Ce) (o : Nat) : ∃ t' : Ce, t'.cap = t.cap ∧ (o < t.cap → t' = t.set o v) ∧ ∀ k, cset v t o k = k t' := by
  by_cases h : o < t.cap
  · exact ⟨t.set o v, Ce.cap_set _ _ _, fun _ => rfl, fun k => cset_eq v t k h⟩
  · cases t with
    | b u => exact ⟨.b (c3s u o v), rfl, fun hh => absurd hh h, fun k => c3set_eq v u o _⟩
    | s u =>
      obtain ⟨u', hu⟩ := upN_ex v u o
      exact ⟨.s u', rfl, fun hh => absurd hh h, fun k => hu _⟩
theorem stK_fin : ∀ {l : List V} {t : Ce} {o : Nat} {k : Ce → R} {v : V} {h : HP} {c : Nat}, stK l t o k = .fin v h c → ∃ t', k t' = .fin v h c ∧ (∀ v ∈ l, is1 v = true) ∧ t'.cap = t.cap ∧ (o + l.length ≤ t.cap → t' = t.sets o l)
  | [], t, o, k, v, h, c, H => ⟨t, H, by simp, rfl, fun _ => rfl⟩
  | x :: l, t, o, k, v, h, c, H => by
    have H' : ifT (is1 x) (cset x t o fun t => fN (Nat.add o 1) fun o => stK l t o k) (.bad 12) = .fin v h c := H
    obtain ⟨h1, h2⟩ := ifT_fin H'
    obtain ⟨t1, g1, g2, g3⟩ := cset_ex x t o
    rw [g3, fN_eq] at h2
    obtain ⟨t', h3, h4, h6, h5⟩ := stK_fin (l := l) h2
    refine ⟨t', h3, by simpa [h1] using h4, h6.trans g1, fun hc => ?_⟩
    simp only [List.length_cons] at hc
    rw [h5 (by rw [g1]; show o + 1 + l.length ≤ _; omega), g2 (by omega)]
    rfl
/-- the cells of a row -/
def CR (ρ : Rho) (z : Z) (t : Ce) (n : Nat) (cs : Array Value) : Prop := ∀ i, i < n → ∃ v, cs[i]? = some v ∧ den ρ (cell z t i) = some v
theorem CR.mono {ρ ρ' : Rho} {z : Z} {t : Ce} {n : Nat} {cs : Array Value} (h : CR ρ z t n cs) (k : Le ρ ρ') : CR ρ' z t n cs := fun i hi => let ⟨v, a, b⟩ := h i hi; ⟨v, a, den_mono k _ b⟩
theorem orD_is1 {v : V} {z : Z} {o : Nat} (h : is1 v = true) : orD v z o = v := by cases v <;> first | rfl | exact Bool.noConfusion h
/-- cells laid over a row's -/
theorem CR.sets {ρ : Rho} {z : Z} {t : Ce} {n m o : Nat} {cs cs' : Array Value} {l : List V} {vs : List Value} (h : CR ρ z t n cs) (hl : denL ρ l = some vs) (h1 : ∀ v ∈ l, is1 v = true) (hcap : o + l.length ≤ t.cap) (hm : m ≤ t.cap)
    (hs : ∀ i, i < m → if o ≤ i ∧ i < o + l.length then cs'[i]? = vs[i - o]? else i < n ∧ cs'[i]? = cs[i]?) : CR ρ z (t.sets o l) m cs' := by
  intro i hi
  have e := cget_sets l t o i hcap (by omega)
  have hsi := hs i hi
  unfold cell
  rw [e]
  split at hsi
  · rename_i hin
    rw [if_pos hin]
    have hlt : i - o < l.length := by omega
    have hget : l[i - o]? = some l[i - o] := List.getElem?_eq_getElem hlt
    obtain ⟨x, hx, hd⟩ := denL_get hl hget
    have hD : l.getD (i - o) V.u = l[i - o] := by simp [List.getD, hget]
    rw [hD, orD_is1 (h1 _ (List.getElem_mem _))]
    exact ⟨x, hsi.trans hx, hd⟩
  · rename_i hout
    rw [if_neg hout]
    obtain ⟨v, a, b⟩ := h i hsi.1
    exact ⟨v, hsi.2.trans a, b⟩
theorem CR.load {ρ : Rho} {z : Z} {t : Ce} {n : Nat} {cs : Array Value} (h : CR ρ z t n cs) : ∀ (k o : Nat), o + k ≤ n → denL ρ ((List.range k).map fun j => cell z t (o + j)) = some ((cs.toList.drop o).take k)
  | 0, _, _ => by simp [denL]
  | k + 1, o, hk => by
    obtain ⟨v, a, b⟩ := h o (by omega)
    have ih := CR.load h k (o + 1) (by omega)
    rw [List.range_succ_eq_map]
    simp only [List.map_cons, List.map_map, Nat.add_zero]
    have hsz : o < cs.toList.length := by
      have := (Array.getElem?_eq_some_iff.1 a).1; simpa using this
    have hd : cs.toList.drop o = v :: cs.toList.drop (o + 1) := by
      rw [List.drop_eq_getElem_cons hsz]
      congr 1
      have := (Array.getElem?_eq_some_iff.1 a).2
      simpa using this
    rw [hd]
    rw [List.take_succ_cons]
    refine denL_cons.2 ⟨v, _, rfl, b, ?_⟩
    have e : (List.map ((fun j => cell z t (o + j)) ∘ Nat.succ) (List.range k)) = (List.range k).map fun j => cell z t (o + 1 + j) :=
      List.map_congr_left fun j _ => by show cell z t (o + (j + 1)) = _; congr 1; omega
    rw [e]; exact ih
section
variable {X : Spx} {P : Program} {w0 : Base} {w : World} {ρ : Rho} {h : HP} {c : Nat}
/-- cells read -/
theorem HR.cell (H : HR X P w0 ρ h c w) {a ty n q o : Nat} {z : Z} {t : Ce} {p : Nat × Nat} (ha : ρ a = some p) (e : hget h a = .c ty n q z t) (ho : o < n) : ∃ v, w.cell? ⟨p.1, o, none⟩ = some v ∧ den ρ (Ev.cell z t o) = some v := by
  obtain ⟨cs, h1, _, _, _, _, h2⟩ := H.row ha e
  obtain ⟨v, h3, h4⟩ := h2 o ho
  exact ⟨v, by simp [World.cell?, h1, h3], h4⟩
theorem addr_add (g o n : Nat) : (⟨g, o, none⟩ : Addr).add n = ⟨g, o + n, none⟩ := by unfold Addr.add; split <;> simp_all
theorem HR.cells (H : HR X P w0 ρ h c w) {a ty n q o k : Nat} {z : Z} {t : Ce} {p : Nat × Nat} (ha : ρ a = some p) (e : hget h a = .c ty n q z t) (ho : o + k ≤ n) :
    ∃ vs : List Value, vs.length = k ∧ denL ρ ((List.range k).map fun j => Ev.cell z t (o + j)) = some vs ∧ (∀ j v, vs[j]? = some v → w.cell? ((⟨p.1, o, none⟩ : Addr).add j) = some v) ∧ (loadCells ⟨p.1, o, none⟩ k).run P w = .ok vs.toArray w := by
  obtain ⟨cs, h1, _, h0, _, _, h2⟩ := H.row ha e
  have hl := CR.load (ρ := ρ) h2 k o ho
  have hlen : ((cs.toList.drop o).take k).length = k := by simp; omega
  have hc : ∀ j v, ((cs.toList.drop o).take k)[j]? = some v → w.cell? ((⟨p.1, o, none⟩ : Addr).add j) = some v := by
    intro j v hj
    rw [addr_add]
    simp only [List.getElem?_take, List.getElem?_drop] at hj
    split at hj
    · simp [World.cell?, h1]; simpa using hj
    · cases hj
  refine ⟨_, hlen, hl, hc, ?_⟩
  have := run_loadCells_list (P := P) w ⟨p.1, o, none⟩ ((cs.toList.drop o).take k) hc
  rw [hlen] at this
  exact this
theorem ldK_fin {a o n : Nat} {k : List V → R} {v : V} {h' : HP} {c' : Nat} (e : ldK h a o n k = .fin v h' c') : ∃ ty m q z t, hget h a = .c ty m q z t ∧ o + n ≤ m ∧ k ((List.range n).map fun j => Ev.cell z t (o + j)) = .fin v h' c' := by
  obtain ⟨ty, m, q, z, t, h1, h2⟩ := blk_fin e
  obtain ⟨h3, h4⟩ := ifT_fin h2
  rw [cellsK_eq] at h4
  exact ⟨ty, m, q, z, t, h1, Nat.le_of_ble_eq_true h3, h4⟩
/-- a row stored in -/
theorem HR.store (H : HR X P w0 ρ h c w) {a ty n q o : Nat} {z : Z} {t : Ce} {p : Nat × Nat} (ha : ρ a = some p) (e : hget h a = .c ty n q z t) {l : List V} {vs : List Value} (hl : denL ρ l = some vs) (h1 : ∀ v ∈ l, is1 v = true) (ho : o + l.length ≤ n) :
    ∃ w', (storeCells ⟨p.1, o, none⟩ vs).run P w = .ok () w' ∧ HR X P w0 ρ (Ev.hs h a (.c ty n q z (t.sets o l))) c w' := by
  obtain ⟨cs, k1, k2, k3, k4, k5, k6⟩ := H.row ha e
  have hlen := denL_length hl
  have h1' : ∀ x ∈ vs, x.oneCell' = true := by
    intro x hx
    obtain ⟨i, hi⟩ := List.mem_iff_getElem?.1 hx
    have hil : i < l.length := by rw [← hlen]; exact (List.getElem?_eq_some_iff.1 hi).1
    obtain ⟨y, hy, hd⟩ := denL_get hl (List.getElem?_eq_getElem hil)
    rw [hi] at hy; cases hy
    exact den_one (h1 _ (List.getElem_mem _)) hd
  refine ⟨_, run_storeCells_at P p.1 o ty vs 0 cs w k1 (by omega) h1', ?_⟩
  refine H.set ha (by rw [e]; exact Blk.noConfusion) (fun s hs => by rw [e] at hs; cases hs) (fun s hs => by cases hs) ?_ rfl rfl rfl (fun k hk => ?_) ?_
  · simp [World.setRow]
  · simp only [World.setRow]; rw [Array.getElem?_modify, if_neg (Ne.symm hk)]
  · refine ⟨p, _, ha, setRow_heap w p.1 cs _ ty _ k1, by rw [Ce.cap_sets]; exact k2, by simp; omega, fun hq => by simp; have := k4 hq; omega, fun hq => by simp; have := k5 hq; omega, ?_⟩
    refine CR.sets (cs := cs) k6 hl h1 (by omega) k2 fun i hi => ?_
    have hio : i < cs.size := by omega
    split
    · rename_i hin
      simp only [Nat.add_zero, List.getElem?_toArray]
      rw [List.append_assoc, List.getElem?_append_right (by simp; omega)]
      simp only [List.length_take, Array.length_toList]
      rw [Nat.min_eq_left (by omega), List.getElem?_append_left (by omega)]
    · rename_i hout
      refine ⟨hi, ?_⟩
      simp only [Nat.add_zero, List.getElem?_toArray]
      by_cases hlt : i < o
      · rw [List.append_assoc, List.getElem?_append_left (by simp; omega), List.getElem?_take]
        simp [hlt]
      · rw [List.getElem?_append_right (by simp; omega)]
        simp only [List.length_append, List.length_take, Array.length_toList, List.getElem?_drop]
        rw [Nat.min_eq_left (by omega)]
        simp only [Array.getElem?_toList]
        congr 1; omega
end
end Ev
