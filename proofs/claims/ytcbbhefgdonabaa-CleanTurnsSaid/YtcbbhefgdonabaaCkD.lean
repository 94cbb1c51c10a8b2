/- Several texts in one: FdFm; FdM; CeM; FrS. -/
import Derived.Test.YtcbbhefgdonabaaCkB
import Derived.Test.YtcbbhefgdonabaaCkC
import Derived.Test.YtcbbhefgdonabaaCkA
import Derived.Test.YtcbbhefgdonabaaOnB
/- The document's answers on widths. -/
namespace Go.Proofs.Ytcbbhefgdonabaa.Bt
open Go Go.RowKit Go.Shelf
set_option linter.unusedVariables false
set_option linter.unusedSimpArgs false

def chkV (ws : List Int) : Int := if ws.length = 0 then 17 else if 32 < ws.length then 15 else if ws.all wOk then 0 else 2
theorem all_not {ws : List Int} {j : Nat} (hj : j < ws.length) (h : wOk (ws.getD j 0) = false) : ws.all wOk = false := by
  rw [Bool.eq_false_iff]
  intro hall
  rw [List.all_eq_true] at hall
  have := hall (ws.getD j 0) (by rw [List.getD_eq_getElem?_getD, List.getElem?_eq_getElem hj]; exact List.getElem_mem hj)
  rw [h] at this; cases this
theorem w_bound {ws : List Int} (ha : ws.all wOk = true) {j : Nat} (hj : j < ws.length) : 1 ≤ ws.getD j 0 ∧ ws.getD j 0 ≤ 8 := by
  rw [List.all_eq_true] at ha
  have h2 := ha (ws.getD j 0) (by rw [List.getD_eq_getElem?_getD, List.getElem?_eq_getElem hj]; exact List.getElem_mem hj)
  have h4 : ws.getD j 0 = 1 ∨ ws.getD j 0 = 2 ∨ ws.getD j 0 = 4 ∨ ws.getD j 0 = 8 := by unfold wOk at h2; simpa using h2
  omega
theorem take_all {ws : List Int} (ha : ws.all wOk = true) (j : Nat) : (ws.take j).all wOk = true := by
  rw [List.all_eq_true] at ha ⊢
  exact fun x hx => ha x (List.take_subset _ _ hx)
theorem sum_step {ws : List Int} (ha : ws.all wOk = true) {j : Nat} (hj : j < ws.length) : ((sumW ws (j + 1) : Nat) : Int) = (sumW ws j : Nat) + ws.getD j 0 := by
  have := w_bound ha hj
  rw [sumW_succ ws j hj]; omega
end Go.Proofs.Ytcbbhefgdonabaa.Bt
/- What is put is told. -/
namespace Go.Proofs.Ytcbbhefgdonabaa.Bt
open Go Go.RowKit Go.Shelf
set_option linter.unusedVariables false

theorem short_val {x : Int} {W : Nat} (h0 : 0 ≤ x) (h : longB x W = false) : ((x.toNat % 2 ^ (8 * W) : Nat) : Int) = x := by
  unfold longB at h
  have h1 : x / 2 ^ (8 * W) = 0 := by simpa using h
  obtain ⟨n, rfl⟩ : ∃ n : Nat, x = n := ⟨x.toNat, by omega⟩
  rw [Int.toNat_natCast]
  have hp : 0 < 2 ^ (8 * W) := Nat.two_pow_pos _
  have h2 : n / 2 ^ (8 * W) = 0 := by
    have : ((n / 2 ^ (8 * W) : Nat) : Int) = 0 := by rw [← h1]; simp
    omega
  rw [Nat.mod_eq_of_lt ((Nat.div_eq_zero_iff_lt hp).1 h2)]
theorem put_val {n : Nat} {f : Nat → Nat} (hr : Rec n f) (m : Nat → UInt8) (an : Nat) (xs : List Int) : ∀ j, j ≤ n → ∀ k, k < j → numV (putR m an f xs j) (an + f k) (f (k + 1) - f k) = (xs.getD k 0).toNat % 2 ^ (8 * (f (k + 1) - f k)) := by
  intro j
  induction j with
  | zero => intro _ k hk; omega
  | succ j ih =>
    intro hj k hk
    by_cases e : k = j
    · subst e; exact numV_store _ _ _ _
    · rw [← ih (by omega) k (by omega)]
      apply numV_congr
      intro i hi
      show putM (putR m an f xs j) (an + f j) _ _ = _
      have h1 := hr.le (show k + 1 ≤ j by omega) (by omega)
      have h2 := hr.mono k (by omega)
      exact putM_out _ _ _ (.inl (by omega))
theorem rec_fP {ws : List Int} {n : Nat} (hn : n = ws.length) (hl : n ≤ 32) (ha : ws.all wOk = true) : Rec n (fP ws n) := by
  have hf : ∀ k, k ≤ n → fP ws n k = sumW ws k := fun k hk => by unfold fP; rw [if_pos hk]
  have hst : ∀ k, k < n → sumW ws (k + 1) = sumW ws k + (ws.getD k 0).toNat ∧ (ws.getD k 0 = 1 ∨ ws.getD k 0 = 2 ∨ ws.getD k 0 = 4 ∨ ws.getD k 0 = 8) := fun k hk => by
    refine ⟨sumW_succ ws k (by omega), ?_⟩
    rw [List.all_eq_true] at ha
    have h2 := ha (ws.getD k 0) (by rw [List.getD_eq_getElem?_getD, List.getElem?_eq_getElem (by omega)]; exact List.getElem_mem (by omega))
    unfold wOk at h2; simpa using h2
  refine ⟨hl, by rw [hf 0 (by omega)]; rfl, fun k hk => ?_, fun k hk => ?_, fun k hk => ?_⟩
  · rw [hf k (by omega), hf (k + 1) (by omega), (hst k hk).1]; omega
  · rw [hf k (by omega), hf (k + 1) (by omega), (hst k hk).1]; have := (hst k hk).2; omega
  · rw [hf k (by omega), hf (k + 1) (by omega), (hst k hk).1]
    rcases (hst k hk).2 with h | h | h | h <;> rw [h, Nat.add_sub_cancel_left] <;> rfl
end Go.Proofs.Ytcbbhefgdonabaa.Bt
/- A list of cleanups: the mathematics. -/
namespace Go.Proofs.Ytcbbhefgdonabaa.Bt
open Go Go.RowKit Go.Shelf
set_option linter.unusedVariables false
set_option linter.unusedSimpArgs false
def F3 : Nat → Nat := fP [8, 1, 1, 8] 4
theorem F3_at : F3 0 = 0 ∧ F3 1 = 8 ∧ F3 2 = 9 ∧ F3 3 = 10 ∧ F3 4 = 18 := by decide
theorem rec3 : Rec 4 F3 := rec_fP rfl (by decide) (by decide)
theorem ok3 : okV [8, 1, 1, 8] = .tuple #[.agg (recC 4 F3), .int .i64 0] := rfl
/-- an entry -/
structure Ent where
  i : Nat
  k : Nat
  l : Nat
  x : Nat
deriving DecidableEq
def Ent.ok (e : Ent) : Prop := e.i < 18446744073709551616 ∧ e.k < 256 ∧ e.l < 256 ∧ e.x < 18446744073709551616
def eZ : Ent := ⟨0, 0, 0, 0⟩
theorem eZ_ok : eZ.ok := by unfold Ent.ok eZ; exact ⟨by decide, by decide, by decide, by decide⟩
def eC (e : Ent) : Array Value := #[.int .u64 (e.i : Int), .int .u8 (e.k : Int), .int .u8 (e.l : Int), .int .u64 (e.x : Int)]
abbrev eV (e : Ent) : Value := .agg #[.int .u64 (e.i : Int), .int .u8 (e.k : Int), .int .u8 (e.l : Int), .int .u64 (e.x : Int)]
def eX (e : Ent) : List Int := [(e.i : Int), (e.k : Int), (e.l : Int), (e.x : Int)]
def rdE (m : Nat → UInt8) (a : Nat) : Ent := ⟨numV m a 8, numV m (a + 8) 1, numV m (a + 9) 1, numV m (a + 10) 8⟩
def laE (m : Nat → UInt8) (a : Nat) (e : Ent) : Nat → UInt8 := putR m a F3 (eX e) 4
theorem rdE_ok (m : Nat → UInt8) (a : Nat) : (rdE m a).ok := by
  have h1 := numV_lt m a 8
  have h2 := numV_lt m (a + 8) 1
  have h3 := numV_lt m (a + 9) 1
  have h4 := numV_lt m (a + 10) 8
  unfold Ent.ok rdE
  exact ⟨by simpa using h1, by simpa using h2, by simpa using h3, by simpa using h4⟩
theorem rdE_congr {m m' : Nat → UInt8} {a : Nat} (h : ∀ j, j < 18 → m (a + j) = m' (a + j)) : rdE m a = rdE m' a := by
  unfold rdE
  rw [numV_congr (m' := m') (a := a) (k := 8) (fun j hj => h j (by omega)), numV_congr (m' := m') (a := a + 8) (k := 1) (fun j hj => by rw [Nat.add_assoc]; exact h _ (by omega)),
    numV_congr (m' := m') (a := a + 9) (k := 1) (fun j hj => by rw [Nat.add_assoc]; exact h _ (by omega)), numV_congr (m' := m') (a := a + 10) (k := 8) (fun j hj => by rw [Nat.add_assoc]; exact h _ (by omega))]
theorem numV_shift {m m' : Nat → UInt8} {a b : Nat} : ∀ k, (∀ j, j < k → m (a + j) = m' (b + j)) → numV m a k = numV m' b k := by
  intro k
  induction k with
  | zero => intro _; rfl
  | succ k ih => intro h; unfold numV; rw [ih (fun j hj => h j (by omega)), h k (by omega)]
theorem rdE_shift {m m' : Nat → UInt8} {a b : Nat} (h : ∀ j, j < 18 → m (a + j) = m' (b + j)) : rdE m a = rdE m' b := by
  unfold rdE
  rw [numV_shift (m' := m') (a := a) (b := b) 8 (fun j hj => h j (by omega)), numV_shift (m' := m') (a := a + 8) (b := b + 8) 1 (fun j hj => by rw [Nat.add_assoc, Nat.add_assoc]; exact h _ (by omega)),
    numV_shift (m' := m') (a := a + 9) (b := b + 9) 1 (fun j hj => by rw [Nat.add_assoc, Nat.add_assoc]; exact h _ (by omega)), numV_shift (m' := m') (a := a + 10) (b := b + 10) 8 (fun j hj => by rw [Nat.add_assoc, Nat.add_assoc]; exact h _ (by omega))]
theorem laE_out (m : Nat → UInt8) (a : Nat) (e : Ent) (i : Nat) (h : i < a ∨ a + 18 ≤ i) : laE m a e i = m i := by
  have hF := F3_at
  unfold laE
  have key : ∀ j, j ≤ 4 → putR m a F3 (eX e) j i = m i := by
    intro j
    induction j with
    | zero => intro _; rfl
    | succ j ih =>
      intro hj
      show putM (putR m a F3 (eX e) j) (a + F3 j) (numB ((eX e).getD j 0) (F3 (j + 1) - F3 j)) i = m i
      have : j = 0 ∨ j = 1 ∨ j = 2 ∨ j = 3 := by omega
      rw [putM_out _ _ _ (by rw [numB_length]; rcases this with rfl | rfl | rfl | rfl <;> simp only [hF.1, hF.2.1, hF.2.2.1, hF.2.2.2.1, hF.2.2.2.2, Nat.zero_add] <;> omega)]
      exact ih (by omega)
  exact key 4 (Nat.le_refl _)
theorem rd_la (m : Nat → UInt8) (a : Nat) (e : Ent) (he : e.ok) : rdE (laE m a e) a = e := by
  obtain ⟨h0, h1, h2, h3, h4⟩ := F3_at
  have g := fun k hk => put_val rec3 m a (eX e) 4 (Nat.le_refl _) k hk
  have g0 := g 0 (by omega); have g1 := g 1 (by omega); have g2 := g 2 (by omega); have g3 := g 3 (by omega)
  simp only [h0, h1, h2, h3, h4, Nat.reduceAdd, Nat.reduceSub, Nat.add_zero] at g0 g1 g2 g3
  obtain ⟨b0, b1, b2, b3⟩ := he
  obtain ⟨i, k, l, x⟩ := e
  unfold rdE laE
  rw [g0, g1, g2, g3]
  simp only [eX, List.getD_cons_zero, List.getD_cons_succ, Int.toNat_natCast, Nat.reduceMul, Nat.reducePow]
  rw [Nat.mod_eq_of_lt b0, Nat.mod_eq_of_lt b1, Nat.mod_eq_of_lt b2, Nat.mod_eq_of_lt b3]
/-- the entries of a list of n slots, from 40 on -/
structure Ls (m : Nat → UInt8) (n : Nat) (L : List Ent) : Prop where
  len : L.length ≤ n
  rd : ∀ j e, L[j]? = some e → rdE m (40 + 24 * j) = e ∧ 0 < e.i
  fin : ∀ j, L.length ≤ j → j < n → rdE m (40 + 24 * j) = eZ
theorem Ls.ok {m : Nat → UInt8} {n : Nat} {L : List Ent} (h : Ls m n L) {j : Nat} {e : Ent} (he : L[j]? = some e) : e.ok := by
  rw [← (h.rd j e he).1]; exact rdE_ok _ _
theorem rdE_zero {m : Nat → UInt8} {a : Nat} (h : ∀ j, j < 18 → m (a + j) = 0) : rdE m a = eZ := by
  rw [rdE_congr (m' := fun _ => 0) h]
  have z : ∀ a k, numV (fun _ => 0) a k = 0 := fun a k => by
    induction k with
    | zero => rfl
    | succ k ih => unfold numV; rw [ih]; simp
  unfold rdE; rw [z, z, z, z]; rfl
theorem Ls.new (n : Nat) : Ls (fun _ => 0) n [] := ⟨Nat.zero_le _, fun j e h => by simp at h, fun j _ _ => rdE_zero fun _ _ => rfl⟩
theorem Ls.add {m : Nat → UInt8} {n : Nat} {L : List Ent} (h : Ls m n L) (hl : L.length < n) (e : Ent) (he : e.ok) (hp : 0 < e.i) : Ls (laE m (40 + 24 * L.length) e) n (L ++ [e]) := by
  refine ⟨by simp; omega, fun j x hj => ?_, fun j h1 h2 => ?_⟩
  · by_cases c : j < L.length
    · rw [List.getElem?_append_left c] at hj
      rw [rdE_congr (m' := m) (fun k hk => laE_out _ _ _ _ (.inl (by omega)))]
      exact h.rd j x hj
    · rw [List.getElem?_append_right (by omega)] at hj
      have : j - L.length = 0 := by
        by_cases z : j - L.length = 0
        · exact z
        · rw [List.getElem?_eq_none (by simp; omega)] at hj; cases hj
      rw [this] at hj
      have hx : e = x := by simpa using hj
      obtain rfl : j = L.length := by omega
      rw [← hx]
      exact ⟨rd_la _ _ _ he, hp⟩
  · simp at h1
    rw [rdE_congr (m' := m) (fun k hk => laE_out _ _ _ _ (.inr (by omega)))]
    exact h.fin j (by omega) h2
/-- one of len entries goes -/
def mvE (m : Nat → UInt8) (i len : Nat) : Nat → UInt8 := putM m (40 + 24 * i) (getM m (40 + 24 * (i + 1)) (24 * (len - 1 - i)))
def rmE (m : Nat → UInt8) (i len : Nat) : Nat → UInt8 := putM (mvE m i len) (40 + 24 * (len - 1)) (List.replicate 24 0)
theorem rmE_low (m : Nat → UInt8) (i len b : Nat) (hi : i < len) (h : b < 40 + 24 * i) : rmE m i len b = m b := by
  unfold rmE mvE
  rw [putM_out _ _ _ (by simp; omega), putM_out _ _ _ (by rw [getM_length]; omega)]
theorem rmE_high (m : Nat → UInt8) (i len b : Nat) (hi : i < len) (h : 40 + 24 * len ≤ b) : rmE m i len b = m b := by
  unfold rmE mvE
  rw [putM_out _ _ _ (by simp; omega), putM_out _ _ _ (by rw [getM_length]; omega)]
theorem rmE_mid (m : Nat → UInt8) (i len b : Nat) (hi : i < len) (h : 40 + 24 * i ≤ b) (h2 : b < 40 + 24 * (len - 1)) : rmE m i len b = m (b + 24) := by
  unfold rmE mvE
  rw [putM_out _ _ _ (by simp; omega)]
  obtain ⟨c, rfl⟩ : ∃ c, b = 40 + 24 * i + c := ⟨b - (40 + 24 * i), by omega⟩
  rw [putM_in _ _ _ (by rw [getM_length]; omega), getM_get _ _ _ _ (by omega)]
  congr 1; omega
theorem rmE_last (m : Nat → UInt8) (i len b : Nat) (hi : i < len) (h : 40 + 24 * (len - 1) ≤ b) (h2 : b < 40 + 24 * len) : rmE m i len b = 0 := by
  unfold rmE
  obtain ⟨c, rfl⟩ : ∃ c, b = 40 + 24 * (len - 1) + c := ⟨b - (40 + 24 * (len - 1)), by omega⟩
  rw [putM_in _ _ _ (by simp; omega), List.getD_eq_getElem?_getD, List.getElem?_replicate, if_pos (by omega)]; rfl
theorem Ls.remove {m : Nat → UInt8} {n : Nat} {L : List Ent} (h : Ls m n L) (i : Nat) (hi : i < L.length) : Ls (rmE m i L.length) n (L.eraseIdx i) := by
  have hle := h.len
  have hel : (L.eraseIdx i).length = L.length - 1 := by rw [List.length_eraseIdx, if_pos hi]
  refine ⟨by omega, fun j x hj => ?_, fun j h1 h2 => ?_⟩
  · have hjl := (List.getElem?_eq_some_iff.1 hj).1
    rw [List.getElem?_eraseIdx] at hj
    by_cases c : j < i
    · rw [if_pos c] at hj
      rw [rdE_congr (m' := m) (fun k hk => rmE_low _ _ _ _ hi (by omega))]
      exact h.rd j x hj
    · rw [if_neg c] at hj
      rw [rdE_shift (m' := m) (b := 40 + 24 * (j + 1)) (fun k hk => by rw [rmE_mid _ _ _ _ hi (by omega) (by omega)]; congr 1; omega)]
      exact h.rd (j + 1) x hj
  · by_cases c : j = L.length - 1
    · exact rdE_zero fun k hk => rmE_last _ _ _ _ hi (by omega) (by omega)
    · rw [rdE_congr (m' := m) (fun k hk => rmE_high _ _ _ _ hi (by omega))]
      exact h.fin j (by omega) h2
/-- where an ID is -/
def ixE (L : List Ent) (id : Nat) : Nat := L.findIdx fun e => e.i == id
theorem ixE_le (L : List Ent) (id : Nat) : ixE L id ≤ L.length := List.findIdx_le_length
theorem ixE_at {L : List Ent} {id k : Nat} {e : Ent} (hk : L[k]? = some e) (hle : k ≤ ixE L id) (h : e.i = id) : ixE L id = k := by
  have hlt := (List.getElem?_eq_some_iff.1 hk).1
  have he := (List.getElem?_eq_some_iff.1 hk).2
  rcases Nat.lt_or_ge k (ixE L id) with c | c
  · have := List.not_of_lt_findIdx c
    simp at this
    rw [he] at this
    exact absurd h this
  · omega
theorem ixE_get {L : List Ent} {id : Nat} (h : ixE L id < L.length) : (L[ixE L id]'h).i = id := by
  have h2 := List.findIdx_getElem (p := fun e : Ent => e.i == id) (xs := L) (w := h)
  exact beq_iff_eq.1 h2
theorem ixE_next {L : List Ent} {id k : Nat} {e : Ent} (hk : L[k]? = some e) (hle : k ≤ ixE L id) (h : e.i ≠ id) : k + 1 ≤ ixE L id := by
  rcases Nat.lt_or_ge k (ixE L id) with c | c
  · exact c
  · have he : ixE L id = k := by omega
    have hlt := (List.getElem?_eq_some_iff.1 hk).1
    have h2 := ixE_get (L := L) (id := id) (by omega)
    simp only [he] at h2
    rw [(List.getElem?_eq_some_iff.1 hk).2] at h2
    exact absurd h2 h
def ixV (L : List Ent) (id : Nat) : Int := if ixE L id < L.length then (ixE L id : Int) else -1
/-- no ID twice -/
def Uq (L : List Ent) : Prop := (L.map Ent.i).Nodup
theorem Uq.at {L : List Ent} (h : Uq L) {j : Nat} {e : Ent} (hj : L[j]? = some e) : ixE L e.i = j := by
  have hlt := (List.getElem?_eq_some_iff.1 hj).1
  have he := (List.getElem?_eq_some_iff.1 hj).2
  have h1 : ixE L e.i < L.length := by
    unfold ixE
    rw [List.findIdx_lt_length]
    exact ⟨e, List.mem_of_getElem? hj, by simp⟩
  have h2 := ixE_get h1
  unfold Uq at h
  unfold List.Nodup at h
  rw [List.pairwise_iff_getElem] at h
  rcases Nat.lt_trichotomy (ixE L e.i) j with c | c | c
  · exact absurd (show (L.map Ent.i)[ixE L e.i]'(by simpa using h1) = (L.map Ent.i)[j]'(by simpa using hlt) by simp [h2, he]) (h (ixE L e.i) j (by simpa using h1) (by simpa using hlt) c)
  · exact c
  · exact absurd (show (L.map Ent.i)[j]'(by simpa using hlt) = (L.map Ent.i)[ixE L e.i]'(by simpa using h1) by simp [h2, he]) (h j (ixE L e.i) (by simpa using hlt) (by simpa using h1) c)
theorem Uq.erase {L : List Ent} (h : Uq L) (i : Nat) : Uq (L.eraseIdx i) := by
  unfold Uq at *
  exact h.sublist ((List.eraseIdx_sublist L i).map _)
theorem Uq.add {L : List Ent} (h : Uq L) (e : Ent) (he : ixE L e.i = L.length) : Uq (L ++ [e]) := by
  unfold Uq at *
  rw [List.map_append, List.nodup_append]
  refine ⟨h, by simp, fun a ha b hb => ?_⟩
  simp at hb
  subst hb
  intro e1
  obtain ⟨y, hy, rfl⟩ := List.mem_map.1 ha
  have : ixE L e.i < L.length := by
    unfold ixE
    rw [List.findIdx_lt_length]
    exact ⟨y, hy, by simp [e1]⟩
  omega
end Go.Proofs.Ytcbbhefgdonabaa.Bt
/- A function's own blocks beside an arena (Fr), or where there is none (Fb); for seats without a buddy. -/
namespace Go.Proofs.Ytcbbhefgdonabaa.Bt
open Go Go.RowKit Go.Shelf
set_option linter.unusedVariables false
set_option linter.unusedSimpArgs false
structure Blk where
  r : Nat
  c : Array Value
  t : TypeId
def NotAr (t : TypeId) : Prop := t ≠ 99 ∧ t ≠ 100 ∧ t ≠ 102
/-- blocks that came since a world w0, beside the arena in block A -/
structure Fr (A : Nat) (w0 : World) (L : List Blk) (x : World) : Prop where
  bs : ∀ y ∈ L, x.heap[y.r]? = some (.cells y.c y.t (0, 0)) ∧ Mine A y.r x ∧ w0.heap.size ≤ y.r ∧ NotAr y.t
  nd : L.Pairwise fun a b => a.r ≠ b.r
  wt : Went A w0 x
section
variable {A : Nat} {s : ASt} {w0 x y : World} {L : List Blk}
theorem Fr.start (A : Nat) (w : World) : Fr A w [] w := ⟨(fun _ h => by cases h), .nil, Went.refl _ _⟩
theorem Fr.new (h : Fr A w0 L x) (ho : On A s x) (c : Array Value) (t : TypeId) (ht : NotAr t) : Fr A w0 (⟨x.heap.size, c, t⟩ :: L) (x.alloc (.cells c t)) := by
  have hb := bel1 x (.cells c t)
  have hg := Went.of_below ho hb
  refine ⟨fun z hz => ?_, ?_, h.wt.trans hg⟩
  · rcases List.mem_cons.1 hz with rfl | hz
    · exact ⟨heap_new _ _, Mine.new ho _, h.wt.size, ht⟩
    · obtain ⟨a1, a2, a3, a4⟩ := h.bs z hz
      exact ⟨(hb.block _ a2.lt).trans a1, a2.went hg, a3, a4⟩
  · refine List.pairwise_cons.2 ⟨fun z hz => ?_, h.nd⟩
    have := (h.bs z hz).2.1.lt
    show x.heap.size ≠ z.r
    omega
theorem Fr.went (h : Fr A w0 L x) (ho : On A s x) (hg : Went A x y) : Fr A w0 L y :=
  ⟨fun z hz => by
    obtain ⟨a1, a2, a3, a4⟩ := h.bs z hz
    exact ⟨hg.keep ho a1 a4.1 a4.2.1 a4.2.2, a2.went hg, a3, a4⟩, h.nd, h.wt.trans hg⟩
theorem Fr.below (h : Fr A w0 L x) (ho : On A s x) (hb : Below x.heap.size x y) : Fr A w0 L y := h.went ho (Went.of_below ho hb)
theorem Fr.at {L1 L2 : List Blk} {b : Blk} (h : Fr A w0 (L1 ++ b :: L2) x) : x.heap[b.r]? = some (.cells b.c b.t (0, 0)) := (h.bs b (by simp)).1
theorem Fr.mine {L1 L2 : List Blk} {b : Blk} (h : Fr A w0 (L1 ++ b :: L2) x) : Mine A b.r x := (h.bs b (by simp)).2.1
theorem Fr.ge {L1 L2 : List Blk} {b : Blk} (h : Fr A w0 (L1 ++ b :: L2) x) : w0.heap.size ≤ b.r := (h.bs b (by simp)).2.2.1
theorem Fr.ne {L1 L2 : List Blk} {b : Blk} (h : Fr A w0 (L1 ++ b :: L2) x) {z : Blk} (hz : z ∈ L1 ∨ z ∈ L2) : z.r ≠ b.r := by
  have := List.pairwise_append.1 h.nd
  rcases hz with hz | hz
  · exact this.2.2 z hz b (List.mem_cons_self ..)
  · exact fun e => (List.pairwise_cons.1 this.2.1).1 z hz e.symm
theorem Fr.cell {L1 L2 : List Blk} {b : Blk} (h : Fr A w0 (L1 ++ b :: L2) x) (k : Nat) {v : Value} (hv : b.c[k]? = some v) : x.cell? ⟨b.r, k, none⟩ = some v ∧ x.frozen? ⟨b.r, k, none⟩ = false :=
  ⟨((cell_blk h.at k).1).trans hv, (cell_blk h.at k).2⟩
theorem Fr.set {L1 L2 : List Blk} {b : Blk} (h : Fr A w0 (L1 ++ b :: L2) x) (ho : On A s x) (k : Nat) (v : Value) : Fr A w0 (L1 ++ ⟨b.r, b.c.setIfInBounds k v, b.t⟩ :: L2) (x.setCell ⟨b.r, k, none⟩ v) := by
  have hm := h.mine
  refine ⟨fun z hz => ?_, ?_, h.wt.set ho hm h.ge k v⟩
  · rcases List.mem_append.1 hz with hz | hz
    · obtain ⟨a1, a2, a3, a4⟩ := h.bs z (List.mem_append.2 (.inl hz))
      exact ⟨(set_other v (h.ne (.inl hz))).trans a1, Mine.set ho hm a2 k v, a3, a4⟩
    · rcases List.mem_cons.1 hz with rfl | hz
      · exact ⟨heap_set h.at v, Mine.set ho hm hm k v, h.ge, (h.bs b (by simp)).2.2.2⟩
      · obtain ⟨a1, a2, a3, a4⟩ := h.bs z (List.mem_append.2 (.inr (List.mem_cons_of_mem _ hz)))
        exact ⟨(set_other v (h.ne (.inr hz))).trans a1, Mine.set ho hm a2 k v, a3, a4⟩
  · have := List.pairwise_append.1 h.nd
    have h2 := List.pairwise_cons.1 this.2.1
    refine List.pairwise_append.2 ⟨this.1, List.pairwise_cons.2 ⟨h2.1, h2.2⟩, fun a ha c hc => ?_⟩
    rcases List.mem_cons.1 hc with rfl | hc
    · exact this.2.2 a ha b (List.mem_cons_self ..)
    · exact this.2.2 a ha c (List.mem_cons_of_mem _ hc)
/-- a block that isn't needed any more -/
theorem Fr.drop {L1 L2 : List Blk} {b : Blk} (h : Fr A w0 (L1 ++ b :: L2) x) : Fr A w0 (L1 ++ L2) x :=
  ⟨fun z hz => h.bs z (by
    rcases List.mem_append.1 hz with hz | hz
    · exact List.mem_append.2 (.inl hz)
    · exact List.mem_append.2 (.inr (List.mem_cons_of_mem _ hz))), h.nd.sublist (by simp), h.wt⟩
/-- some cells stored one behind the other -/
def stR (x : World) (B : Nat) : List Value → Nat → World
  | [], _ => x
  | v :: t, k => stR (x.setCell ⟨B, k, none⟩ v) B t (k + 1)
def setR (c : Array Value) : List Value → Nat → Array Value
  | [], _ => c
  | v :: t, k => setR (c.setIfInBounds k v) t (k + 1)
theorem Fr.stores {L1 L2 : List Blk} {R : Nat} {t : TypeId} : ∀ (vs : List Value) (k : Nat) (x : World) (c : Array Value), Fr A w0 (L1 ++ ⟨R, c, t⟩ :: L2) x → On A s x → Fr A w0 (L1 ++ ⟨R, setR c vs k, t⟩ :: L2) (stR x R vs k) ∧ On A s (stR x R vs k)
  | [], _, _, _, h, ho => ⟨h, ho⟩
  | v :: vs, k, x, c, h, ho => Fr.stores vs (k + 1) _ _ (h.set ho k v) (ho.set h.mine k v)
theorem stR_other {R j : Nat} (hj : j ≠ R) : ∀ (vs : List Value) (k : Nat) (x : World), (stR x R vs k).heap[j]? = x.heap[j]?
  | [], _, _ => rfl
  | v :: vs, k, x => (stR_other hj vs (k + 1) _).trans (set_other v hj)
theorem Base.stores {R : Nat} (hR : w0.heap.size ≤ R) : ∀ (vs : List Value) (k : Nat) (x : World), Base A w0 x → On A s x → Mine A R x → Base A w0 (stR x R vs k)
  | [], _, _, h, _, _ => h
  | v :: vs, k, x, h, ho, hm => Base.stores hR vs (k + 1) _ (h.set ho hm hR k v) (ho.set hm k v) (Mine.set ho hm hm k v)
theorem Fr.at0 {R : Nat} {c : Array Value} {t : TypeId} {L2 : List Blk} (h : Fr A w0 (⟨R, c, t⟩ :: L2) x) : x.heap[R]? = some (.cells c t (0, 0)) := Fr.at (L1 := []) h
theorem Fr.cell0 {R : Nat} {c : Array Value} {t : TypeId} {L2 : List Blk} (h : Fr A w0 (⟨R, c, t⟩ :: L2) x) (k : Nat) {v : Value} (hv : c[k]? = some v) : x.cell? ⟨R, k, none⟩ = some v := (Fr.cell (L1 := []) h k hv).1
theorem Fr.free0 {R : Nat} {c : Array Value} {t : TypeId} {L2 : List Blk} (h : Fr A w0 (⟨R, c, t⟩ :: L2) x) (k : Nat) : x.frozen? ⟨R, k, none⟩ = false := (cell_blk (Fr.at (L1 := []) h) k).2
theorem Fr.mine0 {R : Nat} {c : Array Value} {t : TypeId} {L2 : List Blk} (h : Fr A w0 (⟨R, c, t⟩ :: L2) x) : Mine A R x := Fr.mine (L1 := []) h
theorem Fr.ge0 {R : Nat} {c : Array Value} {t : TypeId} {L2 : List Blk} (h : Fr A w0 (⟨R, c, t⟩ :: L2) x) : w0.heap.size ≤ R := Fr.ge (L1 := []) h
theorem Fr.no0 {R : Nat} {c : Array Value} {t : TypeId} {L2 : List Blk} (h : Fr A w0 (⟨R, c, t⟩ :: L2) x) : NotAr t := (h.bs ⟨R, c, t⟩ (by simp)).2.2.2
theorem Fr.stores0 {R : Nat} {c : Array Value} {t : TypeId} {L2 : List Blk} (h : Fr A w0 (⟨R, c, t⟩ :: L2) x) (ho : On A s x) (vs : List Value) (k : Nat) : Fr A w0 (⟨R, setR c vs k, t⟩ :: L2) (stR x R vs k) := (Fr.stores (L1 := []) vs k x c h ho).1
theorem Fr.drop0 {R : Nat} {c : Array Value} {t : TypeId} {L2 : List Blk} (h : Fr A w0 (⟨R, c, t⟩ :: L2) x) : Fr A w0 (L2) x := Fr.drop (L1 := []) h
theorem Fr.at1 {a0 : Blk} {R : Nat} {c : Array Value} {t : TypeId} {L2 : List Blk} (h : Fr A w0 (a0 :: ⟨R, c, t⟩ :: L2) x) : x.heap[R]? = some (.cells c t (0, 0)) := Fr.at (L1 := [a0]) h
theorem Fr.cell1 {a0 : Blk} {R : Nat} {c : Array Value} {t : TypeId} {L2 : List Blk} (h : Fr A w0 (a0 :: ⟨R, c, t⟩ :: L2) x) (k : Nat) {v : Value} (hv : c[k]? = some v) : x.cell? ⟨R, k, none⟩ = some v := (Fr.cell (L1 := [a0]) h k hv).1
theorem Fr.free1 {a0 : Blk} {R : Nat} {c : Array Value} {t : TypeId} {L2 : List Blk} (h : Fr A w0 (a0 :: ⟨R, c, t⟩ :: L2) x) (k : Nat) : x.frozen? ⟨R, k, none⟩ = false := (cell_blk (Fr.at (L1 := [a0]) h) k).2
theorem Fr.mine1 {a0 : Blk} {R : Nat} {c : Array Value} {t : TypeId} {L2 : List Blk} (h : Fr A w0 (a0 :: ⟨R, c, t⟩ :: L2) x) : Mine A R x := Fr.mine (L1 := [a0]) h
theorem Fr.ge1 {a0 : Blk} {R : Nat} {c : Array Value} {t : TypeId} {L2 : List Blk} (h : Fr A w0 (a0 :: ⟨R, c, t⟩ :: L2) x) : w0.heap.size ≤ R := Fr.ge (L1 := [a0]) h
theorem Fr.no1 {a0 : Blk} {R : Nat} {c : Array Value} {t : TypeId} {L2 : List Blk} (h : Fr A w0 (a0 :: ⟨R, c, t⟩ :: L2) x) : NotAr t := (h.bs ⟨R, c, t⟩ (by simp)).2.2.2
theorem Fr.stores1 {a0 : Blk} {R : Nat} {c : Array Value} {t : TypeId} {L2 : List Blk} (h : Fr A w0 (a0 :: ⟨R, c, t⟩ :: L2) x) (ho : On A s x) (vs : List Value) (k : Nat) : Fr A w0 (a0 :: ⟨R, setR c vs k, t⟩ :: L2) (stR x R vs k) := (Fr.stores (L1 := [a0]) vs k x c h ho).1
theorem Fr.drop1 {a0 : Blk} {R : Nat} {c : Array Value} {t : TypeId} {L2 : List Blk} (h : Fr A w0 (a0 :: ⟨R, c, t⟩ :: L2) x) : Fr A w0 (a0 :: L2) x := Fr.drop (L1 := [a0]) h
theorem Fr.at2 {a0 a1 : Blk} {R : Nat} {c : Array Value} {t : TypeId} {L2 : List Blk} (h : Fr A w0 (a0 :: a1 :: ⟨R, c, t⟩ :: L2) x) : x.heap[R]? = some (.cells c t (0, 0)) := Fr.at (L1 := [a0, a1]) h
theorem Fr.cell2 {a0 a1 : Blk} {R : Nat} {c : Array Value} {t : TypeId} {L2 : List Blk} (h : Fr A w0 (a0 :: a1 :: ⟨R, c, t⟩ :: L2) x) (k : Nat) {v : Value} (hv : c[k]? = some v) : x.cell? ⟨R, k, none⟩ = some v := (Fr.cell (L1 := [a0, a1]) h k hv).1
theorem Fr.free2 {a0 a1 : Blk} {R : Nat} {c : Array Value} {t : TypeId} {L2 : List Blk} (h : Fr A w0 (a0 :: a1 :: ⟨R, c, t⟩ :: L2) x) (k : Nat) : x.frozen? ⟨R, k, none⟩ = false := (cell_blk (Fr.at (L1 := [a0, a1]) h) k).2
theorem Fr.mine2 {a0 a1 : Blk} {R : Nat} {c : Array Value} {t : TypeId} {L2 : List Blk} (h : Fr A w0 (a0 :: a1 :: ⟨R, c, t⟩ :: L2) x) : Mine A R x := Fr.mine (L1 := [a0, a1]) h
theorem Fr.ge2 {a0 a1 : Blk} {R : Nat} {c : Array Value} {t : TypeId} {L2 : List Blk} (h : Fr A w0 (a0 :: a1 :: ⟨R, c, t⟩ :: L2) x) : w0.heap.size ≤ R := Fr.ge (L1 := [a0, a1]) h
theorem Fr.no2 {a0 a1 : Blk} {R : Nat} {c : Array Value} {t : TypeId} {L2 : List Blk} (h : Fr A w0 (a0 :: a1 :: ⟨R, c, t⟩ :: L2) x) : NotAr t := (h.bs ⟨R, c, t⟩ (by simp)).2.2.2
theorem Fr.stores2 {a0 a1 : Blk} {R : Nat} {c : Array Value} {t : TypeId} {L2 : List Blk} (h : Fr A w0 (a0 :: a1 :: ⟨R, c, t⟩ :: L2) x) (ho : On A s x) (vs : List Value) (k : Nat) : Fr A w0 (a0 :: a1 :: ⟨R, setR c vs k, t⟩ :: L2) (stR x R vs k) := (Fr.stores (L1 := [a0, a1]) vs k x c h ho).1
theorem Fr.drop2 {a0 a1 : Blk} {R : Nat} {c : Array Value} {t : TypeId} {L2 : List Blk} (h : Fr A w0 (a0 :: a1 :: ⟨R, c, t⟩ :: L2) x) : Fr A w0 (a0 :: a1 :: L2) x := Fr.drop (L1 := [a0, a1]) h
theorem Fr.at3 {a0 a1 a2 : Blk} {R : Nat} {c : Array Value} {t : TypeId} {L2 : List Blk} (h : Fr A w0 (a0 :: a1 :: a2 :: ⟨R, c, t⟩ :: L2) x) : x.heap[R]? = some (.cells c t (0, 0)) := Fr.at (L1 := [a0, a1, a2]) h
theorem Fr.cell3 {a0 a1 a2 : Blk} {R : Nat} {c : Array Value} {t : TypeId} {L2 : List Blk} (h : Fr A w0 (a0 :: a1 :: a2 :: ⟨R, c, t⟩ :: L2) x) (k : Nat) {v : Value} (hv : c[k]? = some v) : x.cell? ⟨R, k, none⟩ = some v := (Fr.cell (L1 := [a0, a1, a2]) h k hv).1
theorem Fr.free3 {a0 a1 a2 : Blk} {R : Nat} {c : Array Value} {t : TypeId} {L2 : List Blk} (h : Fr A w0 (a0 :: a1 :: a2 :: ⟨R, c, t⟩ :: L2) x) (k : Nat) : x.frozen? ⟨R, k, none⟩ = false := (cell_blk (Fr.at (L1 := [a0, a1, a2]) h) k).2
theorem Fr.mine3 {a0 a1 a2 : Blk} {R : Nat} {c : Array Value} {t : TypeId} {L2 : List Blk} (h : Fr A w0 (a0 :: a1 :: a2 :: ⟨R, c, t⟩ :: L2) x) : Mine A R x := Fr.mine (L1 := [a0, a1, a2]) h
theorem Fr.ge3 {a0 a1 a2 : Blk} {R : Nat} {c : Array Value} {t : TypeId} {L2 : List Blk} (h : Fr A w0 (a0 :: a1 :: a2 :: ⟨R, c, t⟩ :: L2) x) : w0.heap.size ≤ R := Fr.ge (L1 := [a0, a1, a2]) h
theorem Fr.no3 {a0 a1 a2 : Blk} {R : Nat} {c : Array Value} {t : TypeId} {L2 : List Blk} (h : Fr A w0 (a0 :: a1 :: a2 :: ⟨R, c, t⟩ :: L2) x) : NotAr t := (h.bs ⟨R, c, t⟩ (by simp)).2.2.2
theorem Fr.stores3 {a0 a1 a2 : Blk} {R : Nat} {c : Array Value} {t : TypeId} {L2 : List Blk} (h : Fr A w0 (a0 :: a1 :: a2 :: ⟨R, c, t⟩ :: L2) x) (ho : On A s x) (vs : List Value) (k : Nat) : Fr A w0 (a0 :: a1 :: a2 :: ⟨R, setR c vs k, t⟩ :: L2) (stR x R vs k) := (Fr.stores (L1 := [a0, a1, a2]) vs k x c h ho).1
theorem Fr.drop3 {a0 a1 a2 : Blk} {R : Nat} {c : Array Value} {t : TypeId} {L2 : List Blk} (h : Fr A w0 (a0 :: a1 :: a2 :: ⟨R, c, t⟩ :: L2) x) : Fr A w0 (a0 :: a1 :: a2 :: L2) x := Fr.drop (L1 := [a0, a1, a2]) h
theorem Fr.at4 {a0 a1 a2 a3 : Blk} {R : Nat} {c : Array Value} {t : TypeId} {L2 : List Blk} (h : Fr A w0 (a0 :: a1 :: a2 :: a3 :: ⟨R, c, t⟩ :: L2) x) : x.heap[R]? = some (.cells c t (0, 0)) := Fr.at (L1 := [a0, a1, a2, a3]) h
theorem Fr.cell4 {a0 a1 a2 a3 : Blk} {R : Nat} {c : Array Value} {t : TypeId} {L2 : List Blk} (h : Fr A w0 (a0 :: a1 :: a2 :: a3 :: ⟨R, c, t⟩ :: L2) x) (k : Nat) {v : Value} (hv : c[k]? = some v) : x.cell? ⟨R, k, none⟩ = some v := (Fr.cell (L1 := [a0, a1, a2, a3]) h k hv).1
theorem Fr.free4 {a0 a1 a2 a3 : Blk} {R : Nat} {c : Array Value} {t : TypeId} {L2 : List Blk} (h : Fr A w0 (a0 :: a1 :: a2 :: a3 :: ⟨R, c, t⟩ :: L2) x) (k : Nat) : x.frozen? ⟨R, k, none⟩ = false := (cell_blk (Fr.at (L1 := [a0, a1, a2, a3]) h) k).2
theorem Fr.mine4 {a0 a1 a2 a3 : Blk} {R : Nat} {c : Array Value} {t : TypeId} {L2 : List Blk} (h : Fr A w0 (a0 :: a1 :: a2 :: a3 :: ⟨R, c, t⟩ :: L2) x) : Mine A R x := Fr.mine (L1 := [a0, a1, a2, a3]) h
theorem Fr.ge4 {a0 a1 a2 a3 : Blk} {R : Nat} {c : Array Value} {t : TypeId} {L2 : List Blk} (h : Fr A w0 (a0 :: a1 :: a2 :: a3 :: ⟨R, c, t⟩ :: L2) x) : w0.heap.size ≤ R := Fr.ge (L1 := [a0, a1, a2, a3]) h
theorem Fr.no4 {a0 a1 a2 a3 : Blk} {R : Nat} {c : Array Value} {t : TypeId} {L2 : List Blk} (h : Fr A w0 (a0 :: a1 :: a2 :: a3 :: ⟨R, c, t⟩ :: L2) x) : NotAr t := (h.bs ⟨R, c, t⟩ (by simp)).2.2.2
theorem Fr.stores4 {a0 a1 a2 a3 : Blk} {R : Nat} {c : Array Value} {t : TypeId} {L2 : List Blk} (h : Fr A w0 (a0 :: a1 :: a2 :: a3 :: ⟨R, c, t⟩ :: L2) x) (ho : On A s x) (vs : List Value) (k : Nat) : Fr A w0 (a0 :: a1 :: a2 :: a3 :: ⟨R, setR c vs k, t⟩ :: L2) (stR x R vs k) := (Fr.stores (L1 := [a0, a1, a2, a3]) vs k x c h ho).1
theorem Fr.drop4 {a0 a1 a2 a3 : Blk} {R : Nat} {c : Array Value} {t : TypeId} {L2 : List Blk} (h : Fr A w0 (a0 :: a1 :: a2 :: a3 :: ⟨R, c, t⟩ :: L2) x) : Fr A w0 (a0 :: a1 :: a2 :: a3 :: L2) x := Fr.drop (L1 := [a0, a1, a2, a3]) h
theorem Fr.at5 {a0 a1 a2 a3 a4 : Blk} {R : Nat} {c : Array Value} {t : TypeId} {L2 : List Blk} (h : Fr A w0 (a0 :: a1 :: a2 :: a3 :: a4 :: ⟨R, c, t⟩ :: L2) x) : x.heap[R]? = some (.cells c t (0, 0)) := Fr.at (L1 := [a0, a1, a2, a3, a4]) h
theorem Fr.cell5 {a0 a1 a2 a3 a4 : Blk} {R : Nat} {c : Array Value} {t : TypeId} {L2 : List Blk} (h : Fr A w0 (a0 :: a1 :: a2 :: a3 :: a4 :: ⟨R, c, t⟩ :: L2) x) (k : Nat) {v : Value} (hv : c[k]? = some v) : x.cell? ⟨R, k, none⟩ = some v := (Fr.cell (L1 := [a0, a1, a2, a3, a4]) h k hv).1
theorem Fr.free5 {a0 a1 a2 a3 a4 : Blk} {R : Nat} {c : Array Value} {t : TypeId} {L2 : List Blk} (h : Fr A w0 (a0 :: a1 :: a2 :: a3 :: a4 :: ⟨R, c, t⟩ :: L2) x) (k : Nat) : x.frozen? ⟨R, k, none⟩ = false := (cell_blk (Fr.at (L1 := [a0, a1, a2, a3, a4]) h) k).2
theorem Fr.mine5 {a0 a1 a2 a3 a4 : Blk} {R : Nat} {c : Array Value} {t : TypeId} {L2 : List Blk} (h : Fr A w0 (a0 :: a1 :: a2 :: a3 :: a4 :: ⟨R, c, t⟩ :: L2) x) : Mine A R x := Fr.mine (L1 := [a0, a1, a2, a3, a4]) h
theorem Fr.ge5 {a0 a1 a2 a3 a4 : Blk} {R : Nat} {c : Array Value} {t : TypeId} {L2 : List Blk} (h : Fr A w0 (a0 :: a1 :: a2 :: a3 :: a4 :: ⟨R, c, t⟩ :: L2) x) : w0.heap.size ≤ R := Fr.ge (L1 := [a0, a1, a2, a3, a4]) h
theorem Fr.no5 {a0 a1 a2 a3 a4 : Blk} {R : Nat} {c : Array Value} {t : TypeId} {L2 : List Blk} (h : Fr A w0 (a0 :: a1 :: a2 :: a3 :: a4 :: ⟨R, c, t⟩ :: L2) x) : NotAr t := (h.bs ⟨R, c, t⟩ (by simp)).2.2.2
theorem Fr.stores5 {a0 a1 a2 a3 a4 : Blk} {R : Nat} {c : Array Value} {t : TypeId} {L2 : List Blk} (h : Fr A w0 (a0 :: a1 :: a2 :: a3 :: a4 :: ⟨R, c, t⟩ :: L2) x) (ho : On A s x) (vs : List Value) (k : Nat) : Fr A w0 (a0 :: a1 :: a2 :: a3 :: a4 :: ⟨R, setR c vs k, t⟩ :: L2) (stR x R vs k) := (Fr.stores (L1 := [a0, a1, a2, a3, a4]) vs k x c h ho).1
theorem Fr.drop5 {a0 a1 a2 a3 a4 : Blk} {R : Nat} {c : Array Value} {t : TypeId} {L2 : List Blk} (h : Fr A w0 (a0 :: a1 :: a2 :: a3 :: a4 :: ⟨R, c, t⟩ :: L2) x) : Fr A w0 (a0 :: a1 :: a2 :: a3 :: a4 :: L2) x := Fr.drop (L1 := [a0, a1, a2, a3, a4]) h
end
structure Fb (w0 : World) (L : List Blk) (x : World) : Prop where
  bs : ∀ y ∈ L, x.heap[y.r]? = some (.cells y.c y.t (0, 0)) ∧ w0.heap.size ≤ y.r
  nd : L.Pairwise fun a b => a.r ≠ b.r
  be : Below w0.heap.size w0 x
section
variable {w0 x y : World} {L : List Blk}
theorem Fb.start (w : World) : Fb w [] w := ⟨(fun _ h => by cases h), .nil, Below.refl _ _⟩
theorem Fb.new (h : Fb w0 L x) (c : Array Value) (t : TypeId) : Fb w0 (⟨x.heap.size, c, t⟩ :: L) (x.alloc (.cells c t)) := by
  have hb := bel1 x (.cells c t)
  refine ⟨fun z hz => ?_, ?_, h.be.trans (hb.mono h.be.size)⟩
  · rcases List.mem_cons.1 hz with rfl | hz
    · exact ⟨heap_new _ _, h.be.size⟩
    · obtain ⟨a1, a3⟩ := h.bs z hz
      exact ⟨(hb.block _ (Array.getElem?_eq_some_iff.1 a1).1).trans a1, a3⟩
  · refine List.pairwise_cons.2 ⟨fun z hz => ?_, h.nd⟩
    have := (Array.getElem?_eq_some_iff.1 (h.bs z hz).1).1
    show x.heap.size ≠ z.r
    omega
theorem Fb.below (h : Fb w0 L x) (hb : Below x.heap.size x y) : Fb w0 L y :=
  ⟨fun z hz => by
    obtain ⟨a1, a3⟩ := h.bs z hz
    exact ⟨(hb.block _ (Array.getElem?_eq_some_iff.1 a1).1).trans a1, a3⟩, h.nd, h.be.trans (hb.mono h.be.size)⟩
theorem Fb.at {L1 L2 : List Blk} {b : Blk} (h : Fb w0 (L1 ++ b :: L2) x) : x.heap[b.r]? = some (.cells b.c b.t (0, 0)) := (h.bs b (by simp)).1
theorem Fb.ge {L1 L2 : List Blk} {b : Blk} (h : Fb w0 (L1 ++ b :: L2) x) : w0.heap.size ≤ b.r := (h.bs b (by simp)).2
theorem Fb.ne {L1 L2 : List Blk} {b : Blk} (h : Fb w0 (L1 ++ b :: L2) x) {z : Blk} (hz : z ∈ L1 ∨ z ∈ L2) : z.r ≠ b.r := by
  have := List.pairwise_append.1 h.nd
  rcases hz with hz | hz
  · exact this.2.2 z hz b (List.mem_cons_self ..)
  · exact fun e => (List.pairwise_cons.1 this.2.1).1 z hz e.symm
theorem Fb.set {L1 L2 : List Blk} {b : Blk} (h : Fb w0 (L1 ++ b :: L2) x) (k : Nat) (v : Value) : Fb w0 (L1 ++ ⟨b.r, b.c.setIfInBounds k v, b.t⟩ :: L2) (x.setCell ⟨b.r, k, none⟩ v) := by
  refine ⟨fun z hz => ?_, ?_, h.be.setCell (p := ⟨b.r, k, none⟩) h.ge v⟩
  · rcases List.mem_append.1 hz with hz | hz
    · obtain ⟨a1, a3⟩ := h.bs z (List.mem_append.2 (.inl hz))
      exact ⟨(set_other v (h.ne (.inl hz))).trans a1, a3⟩
    · rcases List.mem_cons.1 hz with rfl | hz
      · exact ⟨heap_set h.at v, h.ge⟩
      · obtain ⟨a1, a3⟩ := h.bs z (List.mem_append.2 (.inr (List.mem_cons_of_mem _ hz)))
        exact ⟨(set_other v (h.ne (.inr hz))).trans a1, a3⟩
  · have := List.pairwise_append.1 h.nd
    have h2 := List.pairwise_cons.1 this.2.1
    refine List.pairwise_append.2 ⟨this.1, List.pairwise_cons.2 ⟨h2.1, h2.2⟩, fun a ha c hc => ?_⟩
    rcases List.mem_cons.1 hc with rfl | hc
    · exact this.2.2 a ha b (List.mem_cons_self ..)
    · exact this.2.2 a ha c (List.mem_cons_of_mem _ hc)
theorem Fb.drop {L1 L2 : List Blk} {b : Blk} (h : Fb w0 (L1 ++ b :: L2) x) : Fb w0 (L1 ++ L2) x :=
  ⟨fun z hz => h.bs z (by
    rcases List.mem_append.1 hz with hz | hz
    · exact List.mem_append.2 (.inl hz)
    · exact List.mem_append.2 (.inr (List.mem_cons_of_mem _ hz))), h.nd.sublist (by simp), h.be⟩
theorem Fb.stores {L1 L2 : List Blk} {R : Nat} {t : TypeId} : ∀ (vs : List Value) (k : Nat) (x : World) (c : Array Value), Fb w0 (L1 ++ ⟨R, c, t⟩ :: L2) x → Fb w0 (L1 ++ ⟨R, setR c vs k, t⟩ :: L2) (stR x R vs k)
  | [], _, _, _, h => h
  | v :: vs, k, x, c, h => Fb.stores vs (k + 1) _ _ (h.set k v)
theorem stR_size (R : Nat) : ∀ (vs : List Value) (k : Nat) (x : World), (stR x R vs k).heap.size = x.heap.size
  | [], _, _ => rfl
  | v :: vs, k, x => (stR_size R vs (k + 1) _).trans (by simp [World.setCell])
theorem Fb.at0 {R : Nat} {c : Array Value} {t : TypeId} {L2 : List Blk} (h : Fb w0 (⟨R, c, t⟩ :: L2) x) : x.heap[R]? = some (.cells c t (0, 0)) := Fb.at (L1 := []) h
theorem Fb.cell0 {R : Nat} {c : Array Value} {t : TypeId} {L2 : List Blk} (h : Fb w0 (⟨R, c, t⟩ :: L2) x) (k : Nat) {v : Value} (hv : c[k]? = some v) : x.cell? ⟨R, k, none⟩ = some v := ((cell_blk (Fb.at (L1 := []) h) k).1).trans hv
theorem Fb.free0 {R : Nat} {c : Array Value} {t : TypeId} {L2 : List Blk} (h : Fb w0 (⟨R, c, t⟩ :: L2) x) (k : Nat) : x.frozen? ⟨R, k, none⟩ = false := (cell_blk (Fb.at (L1 := []) h) k).2
theorem Fb.ge0 {R : Nat} {c : Array Value} {t : TypeId} {L2 : List Blk} (h : Fb w0 (⟨R, c, t⟩ :: L2) x) : w0.heap.size ≤ R := Fb.ge (L1 := []) h
theorem Fb.stores0 {R : Nat} {c : Array Value} {t : TypeId} {L2 : List Blk} (h : Fb w0 (⟨R, c, t⟩ :: L2) x) (vs : List Value) (k : Nat) : Fb w0 (⟨R, setR c vs k, t⟩ :: L2) (stR x R vs k) := Fb.stores (L1 := []) vs k x c h
theorem Fb.drop0 {R : Nat} {c : Array Value} {t : TypeId} {L2 : List Blk} (h : Fb w0 (⟨R, c, t⟩ :: L2) x) : Fb w0 (L2) x := Fb.drop (L1 := []) h
theorem Fb.at1 {a0 : Blk} {R : Nat} {c : Array Value} {t : TypeId} {L2 : List Blk} (h : Fb w0 (a0 :: ⟨R, c, t⟩ :: L2) x) : x.heap[R]? = some (.cells c t (0, 0)) := Fb.at (L1 := [a0]) h
theorem Fb.cell1 {a0 : Blk} {R : Nat} {c : Array Value} {t : TypeId} {L2 : List Blk} (h : Fb w0 (a0 :: ⟨R, c, t⟩ :: L2) x) (k : Nat) {v : Value} (hv : c[k]? = some v) : x.cell? ⟨R, k, none⟩ = some v := ((cell_blk (Fb.at (L1 := [a0]) h) k).1).trans hv
theorem Fb.free1 {a0 : Blk} {R : Nat} {c : Array Value} {t : TypeId} {L2 : List Blk} (h : Fb w0 (a0 :: ⟨R, c, t⟩ :: L2) x) (k : Nat) : x.frozen? ⟨R, k, none⟩ = false := (cell_blk (Fb.at (L1 := [a0]) h) k).2
theorem Fb.ge1 {a0 : Blk} {R : Nat} {c : Array Value} {t : TypeId} {L2 : List Blk} (h : Fb w0 (a0 :: ⟨R, c, t⟩ :: L2) x) : w0.heap.size ≤ R := Fb.ge (L1 := [a0]) h
theorem Fb.stores1 {a0 : Blk} {R : Nat} {c : Array Value} {t : TypeId} {L2 : List Blk} (h : Fb w0 (a0 :: ⟨R, c, t⟩ :: L2) x) (vs : List Value) (k : Nat) : Fb w0 (a0 :: ⟨R, setR c vs k, t⟩ :: L2) (stR x R vs k) := Fb.stores (L1 := [a0]) vs k x c h
theorem Fb.drop1 {a0 : Blk} {R : Nat} {c : Array Value} {t : TypeId} {L2 : List Blk} (h : Fb w0 (a0 :: ⟨R, c, t⟩ :: L2) x) : Fb w0 (a0 :: L2) x := Fb.drop (L1 := [a0]) h
theorem Fb.at2 {a0 a1 : Blk} {R : Nat} {c : Array Value} {t : TypeId} {L2 : List Blk} (h : Fb w0 (a0 :: a1 :: ⟨R, c, t⟩ :: L2) x) : x.heap[R]? = some (.cells c t (0, 0)) := Fb.at (L1 := [a0, a1]) h
theorem Fb.cell2 {a0 a1 : Blk} {R : Nat} {c : Array Value} {t : TypeId} {L2 : List Blk} (h : Fb w0 (a0 :: a1 :: ⟨R, c, t⟩ :: L2) x) (k : Nat) {v : Value} (hv : c[k]? = some v) : x.cell? ⟨R, k, none⟩ = some v := ((cell_blk (Fb.at (L1 := [a0, a1]) h) k).1).trans hv
theorem Fb.free2 {a0 a1 : Blk} {R : Nat} {c : Array Value} {t : TypeId} {L2 : List Blk} (h : Fb w0 (a0 :: a1 :: ⟨R, c, t⟩ :: L2) x) (k : Nat) : x.frozen? ⟨R, k, none⟩ = false := (cell_blk (Fb.at (L1 := [a0, a1]) h) k).2
theorem Fb.ge2 {a0 a1 : Blk} {R : Nat} {c : Array Value} {t : TypeId} {L2 : List Blk} (h : Fb w0 (a0 :: a1 :: ⟨R, c, t⟩ :: L2) x) : w0.heap.size ≤ R := Fb.ge (L1 := [a0, a1]) h
theorem Fb.stores2 {a0 a1 : Blk} {R : Nat} {c : Array Value} {t : TypeId} {L2 : List Blk} (h : Fb w0 (a0 :: a1 :: ⟨R, c, t⟩ :: L2) x) (vs : List Value) (k : Nat) : Fb w0 (a0 :: a1 :: ⟨R, setR c vs k, t⟩ :: L2) (stR x R vs k) := Fb.stores (L1 := [a0, a1]) vs k x c h
theorem Fb.drop2 {a0 a1 : Blk} {R : Nat} {c : Array Value} {t : TypeId} {L2 : List Blk} (h : Fb w0 (a0 :: a1 :: ⟨R, c, t⟩ :: L2) x) : Fb w0 (a0 :: a1 :: L2) x := Fb.drop (L1 := [a0, a1]) h
theorem Fb.at3 {a0 a1 a2 : Blk} {R : Nat} {c : Array Value} {t : TypeId} {L2 : List Blk} (h : Fb w0 (a0 :: a1 :: a2 :: ⟨R, c, t⟩ :: L2) x) : x.heap[R]? = some (.cells c t (0, 0)) := Fb.at (L1 := [a0, a1, a2]) h
theorem Fb.cell3 {a0 a1 a2 : Blk} {R : Nat} {c : Array Value} {t : TypeId} {L2 : List Blk} (h : Fb w0 (a0 :: a1 :: a2 :: ⟨R, c, t⟩ :: L2) x) (k : Nat) {v : Value} (hv : c[k]? = some v) : x.cell? ⟨R, k, none⟩ = some v := ((cell_blk (Fb.at (L1 := [a0, a1, a2]) h) k).1).trans hv
theorem Fb.free3 {a0 a1 a2 : Blk} {R : Nat} {c : Array Value} {t : TypeId} {L2 : List Blk} (h : Fb w0 (a0 :: a1 :: a2 :: ⟨R, c, t⟩ :: L2) x) (k : Nat) : x.frozen? ⟨R, k, none⟩ = false := (cell_blk (Fb.at (L1 := [a0, a1, a2]) h) k).2
theorem Fb.ge3 {a0 a1 a2 : Blk} {R : Nat} {c : Array Value} {t : TypeId} {L2 : List Blk} (h : Fb w0 (a0 :: a1 :: a2 :: ⟨R, c, t⟩ :: L2) x) : w0.heap.size ≤ R := Fb.ge (L1 := [a0, a1, a2]) h
theorem Fb.stores3 {a0 a1 a2 : Blk} {R : Nat} {c : Array Value} {t : TypeId} {L2 : List Blk} (h : Fb w0 (a0 :: a1 :: a2 :: ⟨R, c, t⟩ :: L2) x) (vs : List Value) (k : Nat) : Fb w0 (a0 :: a1 :: a2 :: ⟨R, setR c vs k, t⟩ :: L2) (stR x R vs k) := Fb.stores (L1 := [a0, a1, a2]) vs k x c h
theorem Fb.drop3 {a0 a1 a2 : Blk} {R : Nat} {c : Array Value} {t : TypeId} {L2 : List Blk} (h : Fb w0 (a0 :: a1 :: a2 :: ⟨R, c, t⟩ :: L2) x) : Fb w0 (a0 :: a1 :: a2 :: L2) x := Fb.drop (L1 := [a0, a1, a2]) h
theorem Fb.at4 {a0 a1 a2 a3 : Blk} {R : Nat} {c : Array Value} {t : TypeId} {L2 : List Blk} (h : Fb w0 (a0 :: a1 :: a2 :: a3 :: ⟨R, c, t⟩ :: L2) x) : x.heap[R]? = some (.cells c t (0, 0)) := Fb.at (L1 := [a0, a1, a2, a3]) h
theorem Fb.cell4 {a0 a1 a2 a3 : Blk} {R : Nat} {c : Array Value} {t : TypeId} {L2 : List Blk} (h : Fb w0 (a0 :: a1 :: a2 :: a3 :: ⟨R, c, t⟩ :: L2) x) (k : Nat) {v : Value} (hv : c[k]? = some v) : x.cell? ⟨R, k, none⟩ = some v := ((cell_blk (Fb.at (L1 := [a0, a1, a2, a3]) h) k).1).trans hv
theorem Fb.free4 {a0 a1 a2 a3 : Blk} {R : Nat} {c : Array Value} {t : TypeId} {L2 : List Blk} (h : Fb w0 (a0 :: a1 :: a2 :: a3 :: ⟨R, c, t⟩ :: L2) x) (k : Nat) : x.frozen? ⟨R, k, none⟩ = false := (cell_blk (Fb.at (L1 := [a0, a1, a2, a3]) h) k).2
theorem Fb.ge4 {a0 a1 a2 a3 : Blk} {R : Nat} {c : Array Value} {t : TypeId} {L2 : List Blk} (h : Fb w0 (a0 :: a1 :: a2 :: a3 :: ⟨R, c, t⟩ :: L2) x) : w0.heap.size ≤ R := Fb.ge (L1 := [a0, a1, a2, a3]) h
theorem Fb.stores4 {a0 a1 a2 a3 : Blk} {R : Nat} {c : Array Value} {t : TypeId} {L2 : List Blk} (h : Fb w0 (a0 :: a1 :: a2 :: a3 :: ⟨R, c, t⟩ :: L2) x) (vs : List Value) (k : Nat) : Fb w0 (a0 :: a1 :: a2 :: a3 :: ⟨R, setR c vs k, t⟩ :: L2) (stR x R vs k) := Fb.stores (L1 := [a0, a1, a2, a3]) vs k x c h
theorem Fb.drop4 {a0 a1 a2 a3 : Blk} {R : Nat} {c : Array Value} {t : TypeId} {L2 : List Blk} (h : Fb w0 (a0 :: a1 :: a2 :: a3 :: ⟨R, c, t⟩ :: L2) x) : Fb w0 (a0 :: a1 :: a2 :: a3 :: L2) x := Fb.drop (L1 := [a0, a1, a2, a3]) h
theorem Fb.at5 {a0 a1 a2 a3 a4 : Blk} {R : Nat} {c : Array Value} {t : TypeId} {L2 : List Blk} (h : Fb w0 (a0 :: a1 :: a2 :: a3 :: a4 :: ⟨R, c, t⟩ :: L2) x) : x.heap[R]? = some (.cells c t (0, 0)) := Fb.at (L1 := [a0, a1, a2, a3, a4]) h
theorem Fb.cell5 {a0 a1 a2 a3 a4 : Blk} {R : Nat} {c : Array Value} {t : TypeId} {L2 : List Blk} (h : Fb w0 (a0 :: a1 :: a2 :: a3 :: a4 :: ⟨R, c, t⟩ :: L2) x) (k : Nat) {v : Value} (hv : c[k]? = some v) : x.cell? ⟨R, k, none⟩ = some v := ((cell_blk (Fb.at (L1 := [a0, a1, a2, a3, a4]) h) k).1).trans hv
theorem Fb.free5 {a0 a1 a2 a3 a4 : Blk} {R : Nat} {c : Array Value} {t : TypeId} {L2 : List Blk} (h : Fb w0 (a0 :: a1 :: a2 :: a3 :: a4 :: ⟨R, c, t⟩ :: L2) x) (k : Nat) : x.frozen? ⟨R, k, none⟩ = false := (cell_blk (Fb.at (L1 := [a0, a1, a2, a3, a4]) h) k).2
theorem Fb.ge5 {a0 a1 a2 a3 a4 : Blk} {R : Nat} {c : Array Value} {t : TypeId} {L2 : List Blk} (h : Fb w0 (a0 :: a1 :: a2 :: a3 :: a4 :: ⟨R, c, t⟩ :: L2) x) : w0.heap.size ≤ R := Fb.ge (L1 := [a0, a1, a2, a3, a4]) h
theorem Fb.stores5 {a0 a1 a2 a3 a4 : Blk} {R : Nat} {c : Array Value} {t : TypeId} {L2 : List Blk} (h : Fb w0 (a0 :: a1 :: a2 :: a3 :: a4 :: ⟨R, c, t⟩ :: L2) x) (vs : List Value) (k : Nat) : Fb w0 (a0 :: a1 :: a2 :: a3 :: a4 :: ⟨R, setR c vs k, t⟩ :: L2) (stR x R vs k) := Fb.stores (L1 := [a0, a1, a2, a3, a4]) vs k x c h
theorem Fb.drop5 {a0 a1 a2 a3 a4 : Blk} {R : Nat} {c : Array Value} {t : TypeId} {L2 : List Blk} (h : Fb w0 (a0 :: a1 :: a2 :: a3 :: a4 :: ⟨R, c, t⟩ :: L2) x) : Fb w0 (a0 :: a1 :: a2 :: a3 :: a4 :: L2) x := Fb.drop (L1 := [a0, a1, a2, a3, a4]) h
theorem setR_get : ∀ (vs : List Value) (k : Nat) (c : Array Value) (i : Nat), (setR c vs k)[i]? = if k ≤ i ∧ i < k + vs.length ∧ i < c.size then vs[i - k]? else c[i]?
  | [], k, c, i => by rw [if_neg (by simp; omega)]; rfl
  | v :: vs, k, c, i => by
    show (setR (c.setIfInBounds k v) vs (k + 1))[i]? = _
    rw [setR_get vs (k + 1) (c.setIfInBounds k v) i, Array.size_setIfInBounds]
    by_cases h1 : k + 1 ≤ i ∧ i < k + 1 + vs.length ∧ i < c.size
    · rw [if_pos h1, if_pos (by simp; omega), show i - k = (i - (k + 1)) + 1 from by omega]
      rfl
    · rw [if_neg h1]
      by_cases h2 : k ≤ i ∧ i < k + (v :: vs).length ∧ i < c.size
      · have e : i = k := by simp at h2; omega
        subst e
        rw [if_pos h2, Nat.sub_self]
        rw [Array.getElem?_setIfInBounds_self_of_lt h2.2.2]; rfl
      · rw [if_neg h2]
        by_cases e : i = k
        · subst e
          have : ¬ i < c.size := fun q => h2 ⟨Nat.le_refl _, by simp, q⟩
          rw [Array.setIfInBounds_eq_of_size_le (by omega)]
        · rw [Array.getElem?_setIfInBounds_ne (fun q => e q.symm)]
theorem setR_full (c : Array Value) (vs : List Value) (h : c.size = vs.length) : setR c vs 0 = vs.toArray := by
  apply Array.ext_getElem?
  intro i
  rw [setR_get, Nat.sub_zero]
  by_cases hi : i < vs.length
  · rw [if_pos ⟨Nat.zero_le _, by omega, by omega⟩, List.getElem?_toArray]
  · rw [if_neg (fun q => hi (by omega)), Array.getElem?_eq_none (by omega), Array.getElem?_eq_none (by rw [List.size_toArray]; omega)]
theorem Fb.full0 {R : Nat} {c : Array Value} {t : TypeId} {L2 : List Blk} (h : Fb w0 (⟨R, c, t⟩ :: L2) x) (vs : List Value) (hc : c.size = vs.length) : Fb w0 (⟨R, vs.toArray, t⟩ :: L2) (stR x R vs 0) := by
  have := h.stores0 vs 0; rwa [setR_full c vs hc] at this
theorem Fr.full0 {A : Nat} {s : ASt} {R : Nat} {c : Array Value} {t : TypeId} {L2 : List Blk} (h : Fr A w0 (⟨R, c, t⟩ :: L2) x) (ho : On A s x) (vs : List Value) (hc : c.size = vs.length) : Fr A w0 (⟨R, vs.toArray, t⟩ :: L2) (stR x R vs 0) := by
  have := h.stores0 ho vs 0; rwa [setR_full c vs hc] at this
theorem Fb.full1 {a0 : Blk} {R : Nat} {c : Array Value} {t : TypeId} {L2 : List Blk} (h : Fb w0 (a0 :: ⟨R, c, t⟩ :: L2) x) (vs : List Value) (hc : c.size = vs.length) : Fb w0 (a0 :: ⟨R, vs.toArray, t⟩ :: L2) (stR x R vs 0) := by
  have := h.stores1 vs 0; rwa [setR_full c vs hc] at this
theorem Fr.full1 {A : Nat} {s : ASt} {a0 : Blk} {R : Nat} {c : Array Value} {t : TypeId} {L2 : List Blk} (h : Fr A w0 (a0 :: ⟨R, c, t⟩ :: L2) x) (ho : On A s x) (vs : List Value) (hc : c.size = vs.length) : Fr A w0 (a0 :: ⟨R, vs.toArray, t⟩ :: L2) (stR x R vs 0) := by
  have := h.stores1 ho vs 0; rwa [setR_full c vs hc] at this
theorem Fb.full2 {a0 a1 : Blk} {R : Nat} {c : Array Value} {t : TypeId} {L2 : List Blk} (h : Fb w0 (a0 :: a1 :: ⟨R, c, t⟩ :: L2) x) (vs : List Value) (hc : c.size = vs.length) : Fb w0 (a0 :: a1 :: ⟨R, vs.toArray, t⟩ :: L2) (stR x R vs 0) := by
  have := h.stores2 vs 0; rwa [setR_full c vs hc] at this
theorem Fr.full2 {A : Nat} {s : ASt} {a0 a1 : Blk} {R : Nat} {c : Array Value} {t : TypeId} {L2 : List Blk} (h : Fr A w0 (a0 :: a1 :: ⟨R, c, t⟩ :: L2) x) (ho : On A s x) (vs : List Value) (hc : c.size = vs.length) : Fr A w0 (a0 :: a1 :: ⟨R, vs.toArray, t⟩ :: L2) (stR x R vs 0) := by
  have := h.stores2 ho vs 0; rwa [setR_full c vs hc] at this
theorem Fb.full3 {a0 a1 a2 : Blk} {R : Nat} {c : Array Value} {t : TypeId} {L2 : List Blk} (h : Fb w0 (a0 :: a1 :: a2 :: ⟨R, c, t⟩ :: L2) x) (vs : List Value) (hc : c.size = vs.length) : Fb w0 (a0 :: a1 :: a2 :: ⟨R, vs.toArray, t⟩ :: L2) (stR x R vs 0) := by
  have := h.stores3 vs 0; rwa [setR_full c vs hc] at this
theorem Fr.full3 {A : Nat} {s : ASt} {a0 a1 a2 : Blk} {R : Nat} {c : Array Value} {t : TypeId} {L2 : List Blk} (h : Fr A w0 (a0 :: a1 :: a2 :: ⟨R, c, t⟩ :: L2) x) (ho : On A s x) (vs : List Value) (hc : c.size = vs.length) : Fr A w0 (a0 :: a1 :: a2 :: ⟨R, vs.toArray, t⟩ :: L2) (stR x R vs 0) := by
  have := h.stores3 ho vs 0; rwa [setR_full c vs hc] at this
theorem Fb.full4 {a0 a1 a2 a3 : Blk} {R : Nat} {c : Array Value} {t : TypeId} {L2 : List Blk} (h : Fb w0 (a0 :: a1 :: a2 :: a3 :: ⟨R, c, t⟩ :: L2) x) (vs : List Value) (hc : c.size = vs.length) : Fb w0 (a0 :: a1 :: a2 :: a3 :: ⟨R, vs.toArray, t⟩ :: L2) (stR x R vs 0) := by
  have := h.stores4 vs 0; rwa [setR_full c vs hc] at this
theorem Fr.full4 {A : Nat} {s : ASt} {a0 a1 a2 a3 : Blk} {R : Nat} {c : Array Value} {t : TypeId} {L2 : List Blk} (h : Fr A w0 (a0 :: a1 :: a2 :: a3 :: ⟨R, c, t⟩ :: L2) x) (ho : On A s x) (vs : List Value) (hc : c.size = vs.length) : Fr A w0 (a0 :: a1 :: a2 :: a3 :: ⟨R, vs.toArray, t⟩ :: L2) (stR x R vs 0) := by
  have := h.stores4 ho vs 0; rwa [setR_full c vs hc] at this
theorem Fb.full5 {a0 a1 a2 a3 a4 : Blk} {R : Nat} {c : Array Value} {t : TypeId} {L2 : List Blk} (h : Fb w0 (a0 :: a1 :: a2 :: a3 :: a4 :: ⟨R, c, t⟩ :: L2) x) (vs : List Value) (hc : c.size = vs.length) : Fb w0 (a0 :: a1 :: a2 :: a3 :: a4 :: ⟨R, vs.toArray, t⟩ :: L2) (stR x R vs 0) := by
  have := h.stores5 vs 0; rwa [setR_full c vs hc] at this
theorem Fr.full5 {A : Nat} {s : ASt} {a0 a1 a2 a3 a4 : Blk} {R : Nat} {c : Array Value} {t : TypeId} {L2 : List Blk} (h : Fr A w0 (a0 :: a1 :: a2 :: a3 :: a4 :: ⟨R, c, t⟩ :: L2) x) (ho : On A s x) (vs : List Value) (hc : c.size = vs.length) : Fr A w0 (a0 :: a1 :: a2 :: a3 :: a4 :: ⟨R, vs.toArray, t⟩ :: L2) (stR x R vs 0) := by
  have := h.stores5 ho vs 0; rwa [setR_full c vs hc] at this
end
end Go.Proofs.Ytcbbhefgdonabaa.Bt
