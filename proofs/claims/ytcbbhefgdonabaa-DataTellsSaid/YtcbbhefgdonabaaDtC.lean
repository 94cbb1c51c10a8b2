/- Several texts in one: FdFm; FdM; CeM; LsM; DkM; FrS. -/
import Derived.Test.YtcbbhefgdonabaaDtB
import Derived.Test.YtcbbhefgdonabaaDtA
import Derived.Test.YtcbbhefgdonabaaArBytes
import Derived.Test.YtcbbhefgdonabaaOnB
/- The document's answers on widths. -/
namespace Go.Proofs.Ytcbbhefgdonabaa.Bt
open Go Go.RowKit Go.Shelf
set_option linter.unusedVariables false
set_option linter.unusedSimpArgs false

def chkV (ws : List Int) : Int := if ws.length = 0 then 17 else if 32 < ws.length then 15 else if ws.all wOk then 0 else 2
theorem all_not {ws : List Int} {j : Nat} (hj : j < ws.length) (h : wOk (ws.getD j 0) = false) : ws.all wOk = false := by
  rw [Bool.eq_false_iff]
  intro hall
  rw [List.all_eq_true] at hall
  have := hall (ws.getD j 0) (by rw [List.getD_eq_getElem?_getD, List.getElem?_eq_getElem hj]; exact List.getElem_mem hj)
  rw [h] at this; cases this
theorem w_bound {ws : List Int} (ha : ws.all wOk = true) {j : Nat} (hj : j < ws.length) : 1 ≤ ws.getD j 0 ∧ ws.getD j 0 ≤ 8 := by
  rw [List.all_eq_true] at ha
  have h2 := ha (ws.getD j 0) (by rw [List.getD_eq_getElem?_getD, List.getElem?_eq_getElem hj]; exact List.getElem_mem hj)
  have h4 : ws.getD j 0 = 1 ∨ ws.getD j 0 = 2 ∨ ws.getD j 0 = 4 ∨ ws.getD j 0 = 8 := by unfold wOk at h2; simpa using h2
  omega
theorem take_all {ws : List Int} (ha : ws.all wOk = true) (j : Nat) : (ws.take j).all wOk = true := by
  rw [List.all_eq_true] at ha ⊢
  exact fun x hx => ha x (List.take_subset _ _ hx)
theorem sum_step {ws : List Int} (ha : ws.all wOk = true) {j : Nat} (hj : j < ws.length) : ((sumW ws (j + 1) : Nat) : Int) = (sumW ws j : Nat) + ws.getD j 0 := by
  have := w_bound ha hj
  rw [sumW_succ ws j hj]; omega
end Go.Proofs.Ytcbbhefgdonabaa.Bt
/- What is put is told. -/
namespace Go.Proofs.Ytcbbhefgdonabaa.Bt
open Go Go.RowKit Go.Shelf
set_option linter.unusedVariables false

theorem short_val {x : Int} {W : Nat} (h0 : 0 ≤ x) (h : longB x W = false) : ((x.toNat % 2 ^ (8 * W) : Nat) : Int) = x := by
  unfold longB at h
  have h1 : x / 2 ^ (8 * W) = 0 := by simpa using h
  obtain ⟨n, rfl⟩ : ∃ n : Nat, x = n := ⟨x.toNat, by omega⟩
  rw [Int.toNat_natCast]
  have hp : 0 < 2 ^ (8 * W) := Nat.two_pow_pos _
  have h2 : n / 2 ^ (8 * W) = 0 := by
    have : ((n / 2 ^ (8 * W) : Nat) : Int) = 0 := by rw [← h1]; simp
    omega
  rw [Nat.mod_eq_of_lt ((Nat.div_eq_zero_iff_lt hp).1 h2)]
theorem put_val {n : Nat} {f : Nat → Nat} (hr : Rec n f) (m : Nat → UInt8) (an : Nat) (xs : List Int) : ∀ j, j ≤ n → ∀ k, k < j → numV (putR m an f xs j) (an + f k) (f (k + 1) - f k) = (xs.getD k 0).toNat % 2 ^ (8 * (f (k + 1) - f k)) := by
  intro j
  induction j with
  | zero => intro _ k hk; omega
  | succ j ih =>
    intro hj k hk
    by_cases e : k = j
    · subst e; exact numV_store _ _ _ _
    · rw [← ih (by omega) k (by omega)]
      apply numV_congr
      intro i hi
      show putM (putR m an f xs j) (an + f j) _ _ = _
      have h1 := hr.le (show k + 1 ≤ j by omega) (by omega)
      have h2 := hr.mono k (by omega)
      exact putM_out _ _ _ (.inl (by omega))
theorem rec_fP {ws : List Int} {n : Nat} (hn : n = ws.length) (hl : n ≤ 32) (ha : ws.all wOk = true) : Rec n (fP ws n) := by
  have hf : ∀ k, k ≤ n → fP ws n k = sumW ws k := fun k hk => by unfold fP; rw [if_pos hk]
  have hst : ∀ k, k < n → sumW ws (k + 1) = sumW ws k + (ws.getD k 0).toNat ∧ (ws.getD k 0 = 1 ∨ ws.getD k 0 = 2 ∨ ws.getD k 0 = 4 ∨ ws.getD k 0 = 8) := fun k hk => by
    refine ⟨sumW_succ ws k (by omega), ?_⟩
    rw [List.all_eq_true] at ha
    have h2 := ha (ws.getD k 0) (by rw [List.getD_eq_getElem?_getD, List.getElem?_eq_getElem (by omega)]; exact List.getElem_mem (by omega))
    unfold wOk at h2; simpa using h2
  refine ⟨hl, by rw [hf 0 (by omega)]; rfl, fun k hk => ?_, fun k hk => ?_, fun k hk => ?_⟩
  · rw [hf k (by omega), hf (k + 1) (by omega), (hst k hk).1]; omega
  · rw [hf k (by omega), hf (k + 1) (by omega), (hst k hk).1]; have := (hst k hk).2; omega
  · rw [hf k (by omega), hf (k + 1) (by omega), (hst k hk).1]
    rcases (hst k hk).2 with h | h | h | h <;> rw [h, Nat.add_sub_cancel_left] <;> rfl
end Go.Proofs.Ytcbbhefgdonabaa.Bt
/- A list of cleanups: the mathematics. -/
namespace Go.Proofs.Ytcbbhefgdonabaa.Bt
open Go Go.RowKit Go.Shelf
set_option linter.unusedVariables false
set_option linter.unusedSimpArgs false
def F3 : Nat → Nat := fP [8, 1, 1, 8] 4
theorem F3_at : F3 0 = 0 ∧ F3 1 = 8 ∧ F3 2 = 9 ∧ F3 3 = 10 ∧ F3 4 = 18 := by decide
theorem rec3 : Rec 4 F3 := rec_fP rfl (by decide) (by decide)
theorem ok3 : okV [8, 1, 1, 8] = .tuple #[.agg (recC 4 F3), .int .i64 0] := rfl
/-- an entry -/
structure Ent where
  i : Nat
  k : Nat
  l : Nat
  x : Nat
deriving DecidableEq
def Ent.ok (e : Ent) : Prop := e.i < 18446744073709551616 ∧ e.k < 256 ∧ e.l < 256 ∧ e.x < 18446744073709551616
def eZ : Ent := ⟨0, 0, 0, 0⟩
theorem eZ_ok : eZ.ok := by unfold Ent.ok eZ; exact ⟨by decide, by decide, by decide, by decide⟩
def eC (e : Ent) : Array Value := #[.int .u64 (e.i : Int), .int .u8 (e.k : Int), .int .u8 (e.l : Int), .int .u64 (e.x : Int)]
abbrev eV (e : Ent) : Value := .agg #[.int .u64 (e.i : Int), .int .u8 (e.k : Int), .int .u8 (e.l : Int), .int .u64 (e.x : Int)]
def eX (e : Ent) : List Int := [(e.i : Int), (e.k : Int), (e.l : Int), (e.x : Int)]
def rdE (m : Nat → UInt8) (a : Nat) : Ent := ⟨numV m a 8, numV m (a + 8) 1, numV m (a + 9) 1, numV m (a + 10) 8⟩
def laE (m : Nat → UInt8) (a : Nat) (e : Ent) : Nat → UInt8 := putR m a F3 (eX e) 4
theorem rdE_ok (m : Nat → UInt8) (a : Nat) : (rdE m a).ok := by
  have h1 := numV_lt m a 8
  have h2 := numV_lt m (a + 8) 1
  have h3 := numV_lt m (a + 9) 1
  have h4 := numV_lt m (a + 10) 8
  unfold Ent.ok rdE
  exact ⟨by simpa using h1, by simpa using h2, by simpa using h3, by simpa using h4⟩
theorem rdE_congr {m m' : Nat → UInt8} {a : Nat} (h : ∀ j, j < 18 → m (a + j) = m' (a + j)) : rdE m a = rdE m' a := by
  unfold rdE
  rw [numV_congr (m' := m') (a := a) (k := 8) (fun j hj => h j (by omega)), numV_congr (m' := m') (a := a + 8) (k := 1) (fun j hj => by rw [Nat.add_assoc]; exact h _ (by omega)),
    numV_congr (m' := m') (a := a + 9) (k := 1) (fun j hj => by rw [Nat.add_assoc]; exact h _ (by omega)), numV_congr (m' := m') (a := a + 10) (k := 8) (fun j hj => by rw [Nat.add_assoc]; exact h _ (by omega))]
theorem numV_shift {m m' : Nat → UInt8} {a b : Nat} : ∀ k, (∀ j, j < k → m (a + j) = m' (b + j)) → numV m a k = numV m' b k := by
  intro k
  induction k with
  | zero => intro _; rfl
  | succ k ih => intro h; unfold numV; rw [ih (fun j hj => h j (by omega)), h k (by omega)]
theorem rdE_shift {m m' : Nat → UInt8} {a b : Nat} (h : ∀ j, j < 18 → m (a + j) = m' (b + j)) : rdE m a = rdE m' b := by
  unfold rdE
  rw [numV_shift (m' := m') (a := a) (b := b) 8 (fun j hj => h j (by omega)), numV_shift (m' := m') (a := a + 8) (b := b + 8) 1 (fun j hj => by rw [Nat.add_assoc, Nat.add_assoc]; exact h _ (by omega)),
    numV_shift (m' := m') (a := a + 9) (b := b + 9) 1 (fun j hj => by rw [Nat.add_assoc, Nat.add_assoc]; exact h _ (by omega)), numV_shift (m' := m') (a := a + 10) (b := b + 10) 8 (fun j hj => by rw [Nat.add_assoc, Nat.add_assoc]; exact h _ (by omega))]
theorem laE_out (m : Nat → UInt8) (a : Nat) (e : Ent) (i : Nat) (h : i < a ∨ a + 18 ≤ i) : laE m a e i = m i := by
  have hF := F3_at
  unfold laE
  have key : ∀ j, j ≤ 4 → putR m a F3 (eX e) j i = m i := by
    intro j
    induction j with
    | zero => intro _; rfl
    | succ j ih =>
      intro hj
      show putM (putR m a F3 (eX e) j) (a + F3 j) (numB ((eX e).getD j 0) (F3 (j + 1) - F3 j)) i = m i
      have : j = 0 ∨ j = 1 ∨ j = 2 ∨ j = 3 := by omega
      rw [putM_out _ _ _ (by rw [numB_length]; rcases this with rfl | rfl | rfl | rfl <;> simp only [hF.1, hF.2.1, hF.2.2.1, hF.2.2.2.1, hF.2.2.2.2, Nat.zero_add] <;> omega)]
      exact ih (by omega)
  exact key 4 (Nat.le_refl _)
theorem rd_la (m : Nat → UInt8) (a : Nat) (e : Ent) (he : e.ok) : rdE (laE m a e) a = e := by
  obtain ⟨h0, h1, h2, h3, h4⟩ := F3_at
  have g := fun k hk => put_val rec3 m a (eX e) 4 (Nat.le_refl _) k hk
  have g0 := g 0 (by omega); have g1 := g 1 (by omega); have g2 := g 2 (by omega); have g3 := g 3 (by omega)
  simp only [h0, h1, h2, h3, h4, Nat.reduceAdd, Nat.reduceSub, Nat.add_zero] at g0 g1 g2 g3
  obtain ⟨b0, b1, b2, b3⟩ := he
  obtain ⟨i, k, l, x⟩ := e
  unfold rdE laE
  rw [g0, g1, g2, g3]
  simp only [eX, List.getD_cons_zero, List.getD_cons_succ, Int.toNat_natCast, Nat.reduceMul, Nat.reducePow]
  rw [Nat.mod_eq_of_lt b0, Nat.mod_eq_of_lt b1, Nat.mod_eq_of_lt b2, Nat.mod_eq_of_lt b3]
/-- the entries of a list of n slots, from 40 on -/
structure Ls (m : Nat → UInt8) (n : Nat) (L : List Ent) : Prop where
  len : L.length ≤ n
  rd : ∀ j e, L[j]? = some e → rdE m (40 + 24 * j) = e ∧ 0 < e.i
  fin : ∀ j, L.length ≤ j → j < n → rdE m (40 + 24 * j) = eZ
theorem Ls.ok {m : Nat → UInt8} {n : Nat} {L : List Ent} (h : Ls m n L) {j : Nat} {e : Ent} (he : L[j]? = some e) : e.ok := by
  rw [← (h.rd j e he).1]; exact rdE_ok _ _
theorem rdE_zero {m : Nat → UInt8} {a : Nat} (h : ∀ j, j < 18 → m (a + j) = 0) : rdE m a = eZ := by
  rw [rdE_congr (m' := fun _ => 0) h]
  have z : ∀ a k, numV (fun _ => 0) a k = 0 := fun a k => by
    induction k with
    | zero => rfl
    | succ k ih => unfold numV; rw [ih]; simp
  unfold rdE; rw [z, z, z, z]; rfl
theorem Ls.new (n : Nat) : Ls (fun _ => 0) n [] := ⟨Nat.zero_le _, fun j e h => by simp at h, fun j _ _ => rdE_zero fun _ _ => rfl⟩
theorem Ls.add {m : Nat → UInt8} {n : Nat} {L : List Ent} (h : Ls m n L) (hl : L.length < n) (e : Ent) (he : e.ok) (hp : 0 < e.i) : Ls (laE m (40 + 24 * L.length) e) n (L ++ [e]) := by
  refine ⟨by simp; omega, fun j x hj => ?_, fun j h1 h2 => ?_⟩
  · by_cases c : j < L.length
    · rw [List.getElem?_append_left c] at hj
      rw [rdE_congr (m' := m) (fun k hk => laE_out _ _ _ _ (.inl (by omega)))]
      exact h.rd j x hj
    · rw [List.getElem?_append_right (by omega)] at hj
      have : j - L.length = 0 := by
        by_cases z : j - L.length = 0
        · exact z
        · rw [List.getElem?_eq_none (by simp; omega)] at hj; cases hj
      rw [this] at hj
      have hx : e = x := by simpa using hj
      obtain rfl : j = L.length := by omega
      rw [← hx]
      exact ⟨rd_la _ _ _ he, hp⟩
  · simp at h1
    rw [rdE_congr (m' := m) (fun k hk => laE_out _ _ _ _ (.inr (by omega)))]
    exact h.fin j (by omega) h2
/-- one of len entries goes -/
def mvE (m : Nat → UInt8) (i len : Nat) : Nat → UInt8 := putM m (40 + 24 * i) (getM m (40 + 24 * (i + 1)) (24 * (len - 1 - i)))
def rmE (m : Nat → UInt8) (i len : Nat) : Nat → UInt8 := putM (mvE m i len) (40 + 24 * (len - 1)) (List.replicate 24 0)
theorem rmE_low (m : Nat → UInt8) (i len b : Nat) (hi : i < len) (h : b < 40 + 24 * i) : rmE m i len b = m b := by
  unfold rmE mvE
  rw [putM_out _ _ _ (by simp; omega), putM_out _ _ _ (by rw [getM_length]; omega)]
theorem rmE_high (m : Nat → UInt8) (i len b : Nat) (hi : i < len) (h : 40 + 24 * len ≤ b) : rmE m i len b = m b := by
  unfold rmE mvE
  rw [putM_out _ _ _ (by simp; omega), putM_out _ _ _ (by rw [getM_length]; omega)]
theorem rmE_mid (m : Nat → UInt8) (i len b : Nat) (hi : i < len) (h : 40 + 24 * i ≤ b) (h2 : b < 40 + 24 * (len - 1)) : rmE m i len b = m (b + 24) := by
  unfold rmE mvE
  rw [putM_out _ _ _ (by simp; omega)]
  obtain ⟨c, rfl⟩ : ∃ c, b = 40 + 24 * i + c := ⟨b - (40 + 24 * i), by omega⟩
  rw [putM_in _ _ _ (by rw [getM_length]; omega), getM_get _ _ _ _ (by omega)]
  congr 1; omega
theorem rmE_last (m : Nat → UInt8) (i len b : Nat) (hi : i < len) (h : 40 + 24 * (len - 1) ≤ b) (h2 : b < 40 + 24 * len) : rmE m i len b = 0 := by
  unfold rmE
  obtain ⟨c, rfl⟩ : ∃ c, b = 40 + 24 * (len - 1) + c := ⟨b - (40 + 24 * (len - 1)), by omega⟩
  rw [putM_in _ _ _ (by simp; omega), List.getD_eq_getElem?_getD, List.getElem?_replicate, if_pos (by omega)]; rfl
theorem Ls.remove {m : Nat → UInt8} {n : Nat} {L : List Ent} (h : Ls m n L) (i : Nat) (hi : i < L.length) : Ls (rmE m i L.length) n (L.eraseIdx i) := by
  have hle := h.len
  have hel : (L.eraseIdx i).length = L.length - 1 := by rw [List.length_eraseIdx, if_pos hi]
  refine ⟨by omega, fun j x hj => ?_, fun j h1 h2 => ?_⟩
  · have hjl := (List.getElem?_eq_some_iff.1 hj).1
    rw [List.getElem?_eraseIdx] at hj
    by_cases c : j < i
    · rw [if_pos c] at hj
      rw [rdE_congr (m' := m) (fun k hk => rmE_low _ _ _ _ hi (by omega))]
      exact h.rd j x hj
    · rw [if_neg c] at hj
      rw [rdE_shift (m' := m) (b := 40 + 24 * (j + 1)) (fun k hk => by rw [rmE_mid _ _ _ _ hi (by omega) (by omega)]; congr 1; omega)]
      exact h.rd (j + 1) x hj
  · by_cases c : j = L.length - 1
    · exact rdE_zero fun k hk => rmE_last _ _ _ _ hi (by omega) (by omega)
    · rw [rdE_congr (m' := m) (fun k hk => rmE_high _ _ _ _ hi (by omega))]
      exact h.fin j (by omega) h2
/-- where an ID is -/
def ixE (L : List Ent) (id : Nat) : Nat := L.findIdx fun e => e.i == id
theorem ixE_le (L : List Ent) (id : Nat) : ixE L id ≤ L.length := List.findIdx_le_length
theorem ixE_at {L : List Ent} {id k : Nat} {e : Ent} (hk : L[k]? = some e) (hle : k ≤ ixE L id) (h : e.i = id) : ixE L id = k := by
  have hlt := (List.getElem?_eq_some_iff.1 hk).1
  have he := (List.getElem?_eq_some_iff.1 hk).2
  rcases Nat.lt_or_ge k (ixE L id) with c | c
  · have := List.not_of_lt_findIdx c
    simp at this
    rw [he] at this
    exact absurd h this
  · omega
theorem ixE_get {L : List Ent} {id : Nat} (h : ixE L id < L.length) : (L[ixE L id]'h).i = id := by
  have h2 := List.findIdx_getElem (p := fun e : Ent => e.i == id) (xs := L) (w := h)
  exact beq_iff_eq.1 h2
theorem ixE_next {L : List Ent} {id k : Nat} {e : Ent} (hk : L[k]? = some e) (hle : k ≤ ixE L id) (h : e.i ≠ id) : k + 1 ≤ ixE L id := by
  rcases Nat.lt_or_ge k (ixE L id) with c | c
  · exact c
  · have he : ixE L id = k := by omega
    have hlt := (List.getElem?_eq_some_iff.1 hk).1
    have h2 := ixE_get (L := L) (id := id) (by omega)
    simp only [he] at h2
    rw [(List.getElem?_eq_some_iff.1 hk).2] at h2
    exact absurd h2 h
def ixV (L : List Ent) (id : Nat) : Int := if ixE L id < L.length then (ixE L id : Int) else -1
/-- no ID twice -/
def Uq (L : List Ent) : Prop := (L.map Ent.i).Nodup
theorem Uq.at {L : List Ent} (h : Uq L) {j : Nat} {e : Ent} (hj : L[j]? = some e) : ixE L e.i = j := by
  have hlt := (List.getElem?_eq_some_iff.1 hj).1
  have he := (List.getElem?_eq_some_iff.1 hj).2
  have h1 : ixE L e.i < L.length := by
    unfold ixE
    rw [List.findIdx_lt_length]
    exact ⟨e, List.mem_of_getElem? hj, by simp⟩
  have h2 := ixE_get h1
  unfold Uq at h
  unfold List.Nodup at h
  rw [List.pairwise_iff_getElem] at h
  rcases Nat.lt_trichotomy (ixE L e.i) j with c | c | c
  · exact absurd (show (L.map Ent.i)[ixE L e.i]'(by simpa using h1) = (L.map Ent.i)[j]'(by simpa using hlt) by simp [h2, he]) (h (ixE L e.i) j (by simpa using h1) (by simpa using hlt) c)
  · exact c
  · exact absurd (show (L.map Ent.i)[j]'(by simpa using hlt) = (L.map Ent.i)[ixE L e.i]'(by simpa using h1) by simp [h2, he]) (h j (ixE L e.i) (by simpa using hlt) (by simpa using h1) c)
theorem Uq.erase {L : List Ent} (h : Uq L) (i : Nat) : Uq (L.eraseIdx i) := by
  unfold Uq at *
  exact h.sublist ((List.eraseIdx_sublist L i).map _)
theorem Uq.add {L : List Ent} (h : Uq L) (e : Ent) (he : ixE L e.i = L.length) : Uq (L ++ [e]) := by
  unfold Uq at *
  rw [List.map_append, List.nodup_append]
  refine ⟨h, by simp, fun a ha b hb => ?_⟩
  simp at hb
  subst hb
  intro e1
  obtain ⟨y, hy, rfl⟩ := List.mem_map.1 ha
  have : ixE L e.i < L.length := by
    unfold ixE
    rw [List.findIdx_lt_length]
    exact ⟨y, hy, by simp [e1]⟩
  omega
end Go.Proofs.Ytcbbhefgdonabaa.Bt
/- The plain mathematics of a list in memory: its links, what is found, members more and less. -/
namespace Go.Proofs.Ytcbbhefgdonabaa.Bt
open Go Go.RowKit Go.Shelf
set_option linter.unusedVariables false

/-- a number of 8 bytes laid -/
def put8 (m : Nat → UInt8) (a : Nat) (v : Nat) : Nat → UInt8 := putM m a (numB (v : Int) 8)
theorem put8_same (m : Nat → UInt8) (a v : Nat) (hv : v < 18446744073709551616) : numV (put8 m a v) a 8 = v := by
  unfold put8
  rw [numV_store, Int.toNat_natCast]
  exact Nat.mod_eq_of_lt (by rw [show 8 * 8 = 64 from rfl]; exact hv)
theorem put8_far (m : Nat → UInt8) {a c : Nat} (v : Nat) (h : a + 8 ≤ c ∨ c + 8 ≤ a) : numV (put8 m a v) c 8 = numV m c 8 :=
  numV_congr fun j hj => putM_out _ _ _ (by rw [numB_length]; omega)
/-- the members behind a link -/
def Ch (L : Nat) (es : List Nat) (mm : Nat → UInt8) : Nat → Nat → List Nat → Prop
  | h, _, [] => thereE L es h 8 = 0 ∧ numV mm h 8 = 0
  | h, b, m :: t => thereE L es h 8 = 0 ∧ numV mm h 8 = m ∧ b < m ∧ thereE L es m 16 = 0 ∧ Ch L es mm m m t
/-- no two of them lie over one another -/
def Apart (l : List Nat) : Prop := l.Pairwise fun a b => a + 8 ≤ b ∨ b + 8 ≤ a
/-- the links, and where each leads to -/
def prs : Nat → Nat → List Nat → List (Nat × Nat × Nat)
  | h, z, [] => [(h, z, 0)]
  | h, z, m :: t => (h, z, m) :: prs m 16 t
def fnd : Nat → Nat → List Nat → Int → Nat × Nat × Nat
  | h, z, [], _ => (h, z, 0)
  | h, z, m :: t, f => if f ≤ m then (h, z, m) else fnd m 16 t f
def ins (x : Nat) : List Nat → List Nat
  | [] => [x]
  | m :: t => if x ≤ m then x :: m :: t else m :: ins x t
theorem there_is {L : Nat} {es : List Nat} {a k : Int} (h : thereE L es a k = 0) : thereB L es a k = true := by
  unfold thereE at h; cases hq : thereB L es a k with
  | true => rfl
  | false => rw [hq] at h; cases h
theorem there_lt {L : Nat} {es : List Nat} (g : Good L es) {a : Nat} {k : Int} (h : thereE L es a k = 0) : (a : Int) + k ≤ 4294967296 := by
  have h1 := (there_iff g a k).1 (there_is h)
  have := g.small
  omega
theorem there_sub {L : Nat} {es : List Nat} (g : Good L es) {a : Nat} {k j : Int} (h : thereE L es a k = 0) (h0 : 0 ≤ j) (hj : j ≤ k) : thereE L es a j = 0 := by
  have h1 := (there_iff g a k).1 (there_is h)
  unfold thereE
  rw [if_pos]
  exact (there_iff g a j).2 ⟨h1.1, by omega, by omega, fun i h2 h3 => h1.2.2.2 i h2 (by omega)⟩
section
variable {L : Nat} {es : List Nat} {mm mm' : Nat → UInt8}
theorem Ch.there : ∀ {h b : Nat} {ms : List Nat}, Ch L es mm h b ms → thereE L es h 8 = 0
  | _, _, [], k => k.1
  | _, _, _ :: _, k => k.1
theorem Ch.far (e : ∀ c, c ∈ ([] : List Nat) → True) : ∀ {h b : Nat} {ms : List Nat}, Ch L es mm h b ms → (∀ c ∈ h :: ms, numV mm' c 8 = numV mm c 8) → Ch L es mm' h b ms
  | h, b, [], k, f => ⟨k.1, (f h (by simp)).trans k.2⟩
  | h, b, m :: t, k, f => ⟨k.1, (f h (by simp)).trans k.2.1, k.2.2.1, k.2.2.2.1, Ch.far e k.2.2.2.2 fun c hc => f c (List.mem_cons_of_mem _ hc)⟩
theorem Ch.keep {h b : Nat} {ms : List Nat} (k : Ch L es mm h b ms) (f : ∀ c ∈ h :: ms, numV mm' c 8 = numV mm c 8) : Ch L es mm' h b ms := Ch.far (fun _ h => by cases h) k f
theorem Ch.gt : ∀ {h b : Nat} {ms : List Nat}, Ch L es mm h b ms → ∀ c ∈ ms, b < c
  | _, _, [], _, c, hc => by cases hc
  | _, _, m :: t, k, c, hc => by
    rcases List.mem_cons.1 hc with rfl | hc
    · exact k.2.2.1
    · exact Nat.lt_trans k.2.2.1 (Ch.gt k.2.2.2.2 c hc)
theorem Ch.mems : ∀ {h b : Nat} {ms : List Nat}, Ch L es mm h b ms → ∀ c ∈ ms, thereE L es c 16 = 0
  | _, _, [], _, c, hc => by cases hc
  | _, _, m :: t, k, c, hc => by
    rcases List.mem_cons.1 hc with rfl | hc
    · exact k.2.2.2.1
    · exact Ch.mems k.2.2.2.2 c hc
theorem Ch.sorted : ∀ {h b : Nat} {ms : List Nat}, Ch L es mm h b ms → ms.Pairwise (· < ·)
  | _, _, [], _ => .nil
  | _, _, m :: t, k => .cons (Ch.gt k.2.2.2.2) (Ch.sorted k.2.2.2.2)
theorem Ch.lt (g : Good L es) {h b : Nat} {ms : List Nat} (k : Ch L es mm h b ms) : ∀ c ∈ ms, c + 16 ≤ 4294967296 := fun c hc => by have := there_lt g (k.mems c hc); omega
/-- the list and the memory fix the members -/
theorem Ch.unique : ∀ {h b : Nat} {ms ns : List Nat}, Ch L es mm h b ms → Ch L es mm h b ns → ms = ns
  | _, _, [], [], _, _ => rfl
  | _, _, [], n :: _, k, j => by have := k.2.symm.trans j.2.1; have := j.2.2.1; omega
  | _, _, m :: _, [], k, j => by have := j.2.symm.trans k.2.1; have := k.2.2.1; omega
  | _, _, m :: t, n :: u, k, j => by
    obtain rfl : m = n := k.2.1.symm.trans j.2.1
    rw [Ch.unique k.2.2.2.2 j.2.2.2.2]
theorem fnd_mem : ∀ (h z : Nat) (ms : List Nat) (f : Int), (fnd h z ms f).1 ∈ h :: ms
  | h, z, [], f => by simp [fnd]
  | h, z, m :: t, f => by
    unfold fnd
    split
    · simp
    · exact List.mem_cons_of_mem _ (fnd_mem m 16 t f)
theorem fnd_size : ∀ (h z : Nat) (ms : List Nat) (f : Int), (fnd h z ms f).2.1 = z ∨ (fnd h z ms f).2.1 = 16
  | h, z, [], f => by simp [fnd]
  | h, z, m :: t, f => by
    unfold fnd
    split
    · exact .inl rfl
    · exact .inr ((fnd_size m 16 t f).elim id id)
theorem fnd_there (g : Good L es) : ∀ {h b : Nat} {ms : List Nat}, Ch L es mm h b ms → ∀ (z : Nat) (f : Int), thereE L es (fnd h z ms f).1 8 = 0 := fun {h b ms} k z f => by
  rcases List.mem_cons.1 (fnd_mem h z ms f) with e | e
  · rw [e]; exact k.there
  · exact there_sub g (k.mems _ e) (by omega) (by omega)
/-- what is found: 0, or a member not below -/
theorem fnd_val : ∀ (h z : Nat) (ms : List Nat) (f : Int), (fnd h z ms f).2.2 = 0 ∧ (∀ c ∈ ms, (c : Int) < f) ∨ ((fnd h z ms f).2.2 ∈ ms ∧ f ≤ ((fnd h z ms f).2.2 : Int))
  | h, z, [], f => by simp [fnd]
  | h, z, m :: t, f => by
    unfold fnd
    split
    · rename_i hf; exact .inr ⟨by simp, hf⟩
    · rename_i hf
      rcases fnd_val m 16 t f with ⟨e, k⟩ | ⟨e, k⟩
      · refine .inl ⟨e, fun c hc => ?_⟩
        rcases List.mem_cons.1 hc with rfl | hc
        · omega
        · exact k c hc
      · exact .inr ⟨List.mem_cons_of_mem _ e, k⟩
/-- a member's number is found just if it is one -/
theorem fnd_is {h b : Nat} {ms : List Nat} (k : Ch L es mm h b ms) (z : Nat) (x : Nat) (hx : 0 < x) : (fnd h z ms x).2.2 = x ↔ x ∈ ms := by
  constructor
  · intro e
    rcases fnd_val h z ms x with ⟨e2, _⟩ | ⟨e2, _⟩
    · omega
    · rw [e] at e2; exact e2
  · clear hx
    induction ms generalizing h b z with
    | nil => intro h; cases h
    | cons m t ih =>
      intro hm
      unfold fnd
      rcases List.mem_cons.1 hm with rfl | hm
      · rw [if_pos (Int.le_refl _)]
      · have := Ch.gt k.2.2.2.2 x hm
        rw [if_neg (by omega)]
        exact ih k.2.2.2.2 16 hm
theorem add_ch (g : Good L es) {x : Nat} (hx : thereE L es x 16 = 0) : ∀ {h b : Nat} {ms : List Nat} (z : Nat), Ch L es mm h b ms → b < x → x ∉ ms → Apart (h :: ms) → (∀ c ∈ h :: ms, x + 8 ≤ c ∨ c + 8 ≤ x) →
    Ch L es (put8 (put8 mm x (fnd h z ms x).2.2) (fnd h z ms x).1 x) h b (ins x ms)
  | h, b, [], z, k, hb, hn, ha, hf => by
    have hlt := there_lt g hx
    have h1 := hf h (by simp)
    show Ch L es (put8 (put8 mm x 0) h x) h b [x]
    refine ⟨k.1, put8_same _ _ _ (by omega), hb, hx, there_sub g hx (by omega) (by omega), ?_⟩
    rw [put8_far _ _ (by omega)]
    exact put8_same _ _ _ (by omega)
  | h, b, m :: t, z, k, hb, hn, ha, hf => by
    have hlt := there_lt g hx
    have h1 := hf h (by simp)
    have h2 := hf m (by simp)
    have hlm := there_lt g k.2.2.2.1
    have hc := List.pairwise_cons.1 ha
    have hne : x ≠ m := fun e => hn (by simp [e])
    unfold fnd ins
    by_cases hxm : x ≤ m
    · rw [if_pos (by omega), if_pos hxm]
      refine ⟨k.1, put8_same _ _ _ (by omega), hb, hx, there_sub g hx (by omega) (by omega), ?_, by omega, k.2.2.2.1, ?_⟩
      · rw [put8_far _ _ (show h + 8 ≤ x ∨ x + 8 ≤ h by omega)]; exact put8_same _ _ _ (show m < _ by omega)
      · refine k.2.2.2.2.keep fun c hcm => ?_
        have h3 := hc.1 c hcm
        have h4 := hf c (List.mem_cons_of_mem _ hcm)
        rw [put8_far _ _ (by omega), put8_far _ _ (by omega)]
    · rw [if_neg (by omega), if_neg hxm]
      have ih := add_ch g hx 16 k.2.2.2.2 (by omega) (fun e => hn (List.mem_cons_of_mem _ e)) hc.2 (fun c hcm => hf c (List.mem_cons_of_mem _ hcm))
      have h3 := hc.1 _ (fnd_mem m 16 t x)
      refine ⟨k.1, ?_, k.2.2.1, k.2.2.2.1, ih⟩
      rw [put8_far _ _ (by omega), put8_far _ _ (by omega)]
      exact k.2.1
/-- where a link leads to -/
def nxt (mm : Nat → UInt8) (a : Nat) : Nat := numV mm a 8
theorem del_ch (g : Good L es) {x : Nat} : ∀ {h b : Nat} {ms : List Nat} (z : Nat), Ch L es mm h b ms → x ∈ ms → Apart (h :: ms) →
    Ch L es (put8 mm (fnd h z ms x).1 (nxt mm x)) h b (ms.erase x)
  | h, b, [], z, k, hm, ha => by cases hm
  | h, b, m :: t, z, k, hm, ha => by
    have hc := List.pairwise_cons.1 ha
    have hlm := there_lt g k.2.2.2.1
    unfold fnd
    by_cases hxm : x ≤ m
    · have e : x = m := by
        rcases List.mem_cons.1 hm with e | e
        · exact e
        · have := Ch.gt k.2.2.2.2 x e; omega
      subst e
      rw [if_pos (by omega), List.erase_cons_head]
      cases t with
      | nil =>
        refine ⟨k.1, ?_⟩
        unfold nxt
        rw [k.2.2.2.2.2]; exact put8_same _ _ _ (by omega)
      | cons m2 t2 =>
        have k2 := k.2.2.2.2
        have hl2 := there_lt g k2.2.2.2.1
        refine ⟨k.1, ?_, ?_, k2.2.2.2.1, k2.2.2.2.2.keep fun c hcm => ?_⟩
        · unfold nxt
          rw [k2.2.1]; exact put8_same _ _ _ (by omega)
        · have := k.2.2.1; have := k2.2.2.1; omega
        · have h3 := hc.1 c (List.mem_cons_of_mem _ hcm)
          rw [put8_far _ _ (by omega)]
    · have hne : x ≠ m := by omega
      have hmt : x ∈ t := by
        rcases List.mem_cons.1 hm with e | e
        · exact absurd e hne
        · exact e
      rw [if_neg (by omega), List.erase_cons_tail (by simpa using fun e => hne e.symm)]
      have h3 := hc.1 _ (fnd_mem m 16 t x)
      refine ⟨k.1, ?_, k.2.2.1, k.2.2.2.1, del_ch g 16 k.2.2.2.2 hmt hc.2⟩
      rw [put8_far _ _ (by omega)]
      exact k.2.1
theorem ins_mem (x c : Nat) : ∀ ms : List Nat, c ∈ ins x ms ↔ c = x ∨ c ∈ ms
  | [] => by simp [ins]
  | m :: t => by
    unfold ins
    split
    · simp
    · rw [List.mem_cons, ins_mem x c t, List.mem_cons]
      constructor
      · rintro (h | h | h)
        · exact .inr (.inl h)
        · exact .inl h
        · exact .inr (.inr h)
      · rintro (h | h | h)
        · exact .inr (.inl h)
        · exact .inl h
        · exact .inr (.inr h)
theorem ins_length (x : Nat) : ∀ ms : List Nat, (ins x ms).length = ms.length + 1
  | [] => rfl
  | m :: t => by
    unfold ins
    split
    · rfl
    · rw [List.length_cons, ins_length x t, List.length_cons]
end
end Go.Proofs.Ytcbbhefgdonabaa.Bt
/- Keys: the mathematics. -/
namespace Go.Proofs.Ytcbbhefgdonabaa.Bt
open Go Go.RowKit Go.Shelf
set_option linter.unusedVariables false
set_option linter.unusedSimpArgs false
/-- an item -/
structure Itm where
  k : ByteArray
  x : Nat
def itZ : Itm := ⟨⟨#[]⟩, 0⟩
/-- may it be kept -/
def Itm.ok (t : Itm) : Prop := 0 < t.k.size ∧ t.k.size ≤ 16 ∧ t.x < 18446744073709551616
/-- an item's bytes in a slot -/
structure ItAt (m : Nat → UInt8) (a : Nat) (t : Itm) : Prop where
  n : (m a).toNat = t.k.size
  b : getM m (a + 1) t.k.size = t.k.data.toList
  x : numV m (a + 24) 8 = t.x
theorem getM_ext {m m' : Nat → UInt8} {a b n : Nat} (h : ∀ j, j < n → m (a + j) = m' (b + j)) : getM m a n = getM m' b n := by
  unfold getM
  apply List.map_congr_left
  intro j hj
  exact h j (List.mem_range.1 hj)
theorem ItAt.shift {m m' : Nat → UInt8} {a b : Nat} {t : Itm} (h : ItAt m b t) (ht : t.k.size ≤ 16) (e : ∀ j, j < 32 → m' (a + j) = m (b + j)) : ItAt m' a t := by
  refine ⟨?_, ?_, ?_⟩
  · have := e 0 (by omega)
    rw [Nat.add_zero, Nat.add_zero] at this
    rw [this]; exact h.n
  · rw [← h.b]
    exact getM_ext fun j hj => by rw [Nat.add_assoc, Nat.add_assoc]; exact e _ (by omega)
  · rw [← h.x]
    exact numV_shift 8 fun j hj => by rw [Nat.add_assoc, Nat.add_assoc]; exact e _ (by omega)
/-- an item is laid -/
def stT (m : Nat → UInt8) (a : Nat) (t : Itm) : Nat → UInt8 := put8 (putM m a (UInt8.ofNat t.k.size :: t.k.data.toList)) (a + 24) t.x
theorem stT_out (m : Nat → UInt8) {a i : Nat} {t : Itm} (ht : t.k.size ≤ 16) (h : i < a ∨ a + 32 ≤ i) : stT m a t i = m i := by
  unfold stT put8
  have hl : t.k.data.toList.length = t.k.size := bytes_len t.k
  rw [putM_out _ _ _ (by rw [numB_length]; omega), putM_out _ _ _ (by rw [List.length_cons, hl]; omega)]
theorem stT_at (m : Nat → UInt8) (a : Nat) {t : Itm} (ht : t.ok) : ItAt (stT m a t) a t := by
  obtain ⟨h1, h2, h3⟩ := ht
  have hl : t.k.data.toList.length = t.k.size := bytes_len t.k
  have hlow : ∀ i, i < a + 24 → stT m a t i = putM m a (UInt8.ofNat t.k.size :: t.k.data.toList) i := fun i hi => by
    unfold stT put8; rw [putM_out _ _ _ (.inl (by omega))]
  refine ⟨?_, ?_, ?_⟩
  · rw [hlow a (by omega)]
    have := putM_in m a (UInt8.ofNat t.k.size :: t.k.data.toList) (i := 0) (by simp)
    rw [Nat.add_zero] at this
    rw [this]
    show (UInt8.ofNat t.k.size).toNat = _
    rw [UInt8.toNat_ofNat', Nat.mod_eq_of_lt (by omega)]
  · apply List.ext_getElem
    · rw [getM_length, hl]
    · intro i h4 h5
      rw [getM_length] at h4
      have e1 : (getM (stT m a t) (a + 1) t.k.size)[i]'(by rw [getM_length]; exact h4) = stT m a t (a + 1 + i) := by simp [getM]
      rw [e1, hlow _ (by omega), show a + 1 + i = a + (i + 1) by omega, putM_in _ _ _ (by rw [List.length_cons, hl]; omega)]
      rw [List.getD_cons_succ, List.getD_eq_getElem?_getD, List.getElem?_eq_getElem h5]; rfl
  · unfold stT
    exact put8_same _ _ _ h3
/-- the items of keys of n slots, from 40 on -/
structure Ky (m : Nat → UInt8) (n : Nat) (L : List Itm) : Prop where
  len : L.length ≤ n
  rd : ∀ j t, L[j]? = some t → ItAt m (40 + 32 * j) t ∧ t.ok
  fin : ∀ j, L.length ≤ j → j < n → m (40 + 32 * j) = 0
theorem Ky.new (n : Nat) : Ky (fun _ => 0) n [] := ⟨Nat.zero_le _, fun j e h => by simp at h, fun _ _ _ => rfl⟩
def stO (m : Nat → UInt8) (a : Nat) : Option Itm → (Nat → UInt8)
  | some t => stT m a t
  | none => m
/-- all items laid, one behind the other -/
def stAll (m : Nat → UInt8) (L : List Itm) : Nat → (Nat → UInt8)
  | 0 => m
  | j + 1 => stO (stAll m L j) (40 + 32 * j) L[j]?
theorem stAll_some (m : Nat → UInt8) {L : List Itm} {j : Nat} {t : Itm} (h : L[j]? = some t) : stAll m L (j + 1) = stT (stAll m L j) (40 + 32 * j) t := by
  show stO (stAll m L j) (40 + 32 * j) L[j]? = _
  rw [h]; rfl
theorem stAll_none (m : Nat → UInt8) {L : List Itm} {j : Nat} (h : L[j]? = none) : stAll m L (j + 1) = stAll m L j := by
  show stO (stAll m L j) (40 + 32 * j) L[j]? = _
  rw [h]; rfl
theorem stAll_high (m : Nat → UInt8) {L : List Itm} (hL : ∀ t ∈ L, t.ok) : ∀ j i, 40 + 32 * j ≤ i → stAll m L j i = m i := by
  intro j
  induction j with
  | zero => intro i _; rfl
  | succ j ih =>
    intro i hi
    cases h : L[j]? with
    | some t => rw [stAll_some m h, stT_out _ (hL t (List.mem_of_getElem? h)).2.1 (.inr (by omega)), ih i (by omega)]
    | none => rw [stAll_none m h]; exact ih i (by omega)
theorem stAll_rd (m : Nat → UInt8) {L : List Itm} (hL : ∀ t ∈ L, t.ok) : ∀ j, ∀ i, i < j → ∀ t, L[i]? = some t → ItAt (stAll m L j) (40 + 32 * i) t := by
  intro j
  induction j with
  | zero => intro i hi; omega
  | succ j ih =>
    intro i hi t ht
    by_cases c : i = j
    · subst c
      rw [stAll_some m ht]
      exact stT_at _ _ (hL t (List.mem_of_getElem? ht))
    · cases h : L[j]? with
      | some u =>
        rw [stAll_some m h]
        exact (ih i (by omega) t ht).shift (hL t (List.mem_of_getElem? ht)).2.1 fun k hk => stT_out _ (hL u (List.mem_of_getElem? h)).2.1 (.inl (by omega))
      | none => rw [stAll_none m h]; exact ih i (by omega) t ht
theorem Ky.all {m : Nat → UInt8} {n : Nat} {L M : List Itm} (h : Ky m n L) (hM : ∀ t ∈ M, t.ok) (h1 : L.length ≤ M.length) (h2 : M.length ≤ n) : Ky (stAll m M M.length) n M :=
  ⟨h2, fun j t ht => ⟨stAll_rd m hM M.length j (List.getElem?_eq_some_iff.1 ht).1 t ht, hM t (List.mem_of_getElem? ht)⟩, fun j hj hn => by rw [stAll_high m hM _ _ (by omega)]; exact h.fin j (by omega) hn⟩
/-- one of len items goes -/
def mvT (m : Nat → UInt8) (i len : Nat) : Nat → UInt8 := putM m (40 + 32 * i) (getM m (40 + 32 * (i + 1)) (32 * (len - 1 - i)))
def rmT (m : Nat → UInt8) (i len : Nat) : Nat → UInt8 := putM (mvT m i len) (40 + 32 * (len - 1)) (List.replicate 32 0)
theorem rmT_low (m : Nat → UInt8) (i len b : Nat) (hi : i < len) (h : b < 40 + 32 * i) : rmT m i len b = m b := by
  unfold rmT mvT
  rw [putM_out _ _ _ (by simp; omega), putM_out _ _ _ (by rw [getM_length]; omega)]
theorem rmT_high (m : Nat → UInt8) (i len b : Nat) (hi : i < len) (h : 40 + 32 * len ≤ b) : rmT m i len b = m b := by
  unfold rmT mvT
  rw [putM_out _ _ _ (by simp; omega), putM_out _ _ _ (by rw [getM_length]; omega)]
theorem rmT_mid (m : Nat → UInt8) (i len b : Nat) (hi : i < len) (h : 40 + 32 * i ≤ b) (h2 : b < 40 + 32 * (len - 1)) : rmT m i len b = m (b + 32) := by
  unfold rmT mvT
  rw [putM_out _ _ _ (by simp; omega)]
  obtain ⟨c, rfl⟩ : ∃ c, b = 40 + 32 * i + c := ⟨b - (40 + 32 * i), by omega⟩
  rw [putM_in _ _ _ (by rw [getM_length]; omega), getM_get _ _ _ _ (by omega)]
  congr 1; omega
theorem rmT_last (m : Nat → UInt8) (i len b : Nat) (hi : i < len) (h : 40 + 32 * (len - 1) ≤ b) (h2 : b < 40 + 32 * len) : rmT m i len b = 0 := by
  unfold rmT
  obtain ⟨c, rfl⟩ : ∃ c, b = 40 + 32 * (len - 1) + c := ⟨b - (40 + 32 * (len - 1)), by omega⟩
  rw [putM_in _ _ _ (by simp; omega), List.getD_eq_getElem?_getD, List.getElem?_replicate, if_pos (by omega)]; rfl
theorem Ky.remove {m : Nat → UInt8} {n : Nat} {L : List Itm} (h : Ky m n L) (i : Nat) (hi : i < L.length) : Ky (rmT m i L.length) n (L.eraseIdx i) := by
  have hle := h.len
  have hel : (L.eraseIdx i).length = L.length - 1 := by rw [List.length_eraseIdx, if_pos hi]
  refine ⟨by omega, fun j t hj => ?_, fun j h1 h2 => ?_⟩
  · have hjl := (List.getElem?_eq_some_iff.1 hj).1
    rw [List.getElem?_eraseIdx] at hj
    by_cases c : j < i
    · rw [if_pos c] at hj
      exact ⟨(h.rd j t hj).1.shift (h.rd j t hj).2.2.1 fun k hk => rmT_low _ _ _ _ hi (by omega), (h.rd j t hj).2⟩
    · rw [if_neg c] at hj
      exact ⟨(h.rd (j + 1) t hj).1.shift (h.rd (j + 1) t hj).2.2.1 fun k hk => by rw [rmT_mid _ _ _ _ hi (by omega) (by omega)]; congr 1; omega, (h.rd (j + 1) t hj).2⟩
  · by_cases c : j = L.length - 1
    · exact rmT_last _ _ _ _ hi (by omega) (by omega)
    · rw [rmT_high _ _ _ _ hi (by omega)]
      exact h.fin j (by omega) h2
/-- where a key is -/
def ixK (L : List Itm) (k : ByteArray) : Nat := L.findIdx fun t => decide (t.k = k)
theorem ixK_le (L : List Itm) (k : ByteArray) : ixK L k ≤ L.length := List.findIdx_le_length
theorem ixK_get {L : List Itm} {k : ByteArray} (h : ixK L k < L.length) : (L[ixK L k]'h).k = k := by
  have h2 := List.findIdx_getElem (p := fun t : Itm => decide (t.k = k)) (xs := L) (w := h)
  exact of_decide_eq_true h2
theorem ixK_at {L : List Itm} {k : ByteArray} {j : Nat} {t : Itm} (hj : L[j]? = some t) (hle : j ≤ ixK L k) (h : t.k = k) : ixK L k = j := by
  have he := (List.getElem?_eq_some_iff.1 hj).2
  rcases Nat.lt_or_ge j (ixK L k) with c | c
  · have := List.not_of_lt_findIdx c
    simp at this
    rw [he] at this
    exact absurd h this
  · omega
theorem ixK_next {L : List Itm} {k : ByteArray} {j : Nat} {t : Itm} (hj : L[j]? = some t) (hle : j ≤ ixK L k) (h : t.k ≠ k) : j + 1 ≤ ixK L k := by
  rcases Nat.lt_or_ge j (ixK L k) with c | c
  · exact c
  · have he : ixK L k = j := by omega
    have hlt := (List.getElem?_eq_some_iff.1 hj).1
    have h2 := ixK_get (L := L) (k := k) (by omega)
    simp only [he] at h2
    rw [(List.getElem?_eq_some_iff.1 hj).2] at h2
    exact absurd h2 h
def ixKV (L : List Itm) (k : ByteArray) : Int := if ixK L k < L.length then (ixK L k : Int) else -1
/-- an item is set among others -/
def setC (L : List Itm) (n : Nat) (t : Itm) : Int := if t.k.size = 0 then 17 else if 16 < t.k.size then 16 else if ixK L t.k < L.length then 0 else if L.length = n then 10 else 0
def setL (L : List Itm) (n : Nat) (t : Itm) : List Itm := if setC L n t = 0 then (if ixK L t.k < L.length then L.set (ixK L t.k) t else L ++ [t]) else L
theorem set_ok {L : List Itm} {n : Nat} {t : Itm} (hL : ∀ u ∈ L, u.ok) (ht : t.x < 18446744073709551616) : ∀ u ∈ setL L n t, u.ok := by
  intro u hu
  unfold setL at hu
  by_cases c : setC L n t = 0
  · rw [if_pos c] at hu
    have hto : t.ok := by
      unfold setC at c
      split at c
      · omega
      · split at c
        · omega
        · exact ⟨by omega, by omega, ht⟩
    split at hu
    · rcases List.mem_or_eq_of_mem_set hu with h | h
      · exact hL u h
      · rw [h]; exact hto
    · rcases List.mem_append.1 hu with h | h
      · exact hL u h
      · rw [List.mem_singleton.1 h]; exact hto
  · rw [if_neg c] at hu; exact hL u hu
theorem set_len {L : List Itm} {n : Nat} {t : Itm} (hL : L.length ≤ n) : L.length ≤ (setL L n t).length ∧ (setL L n t).length ≤ n := by
  unfold setL
  by_cases c : setC L n t = 0
  · rw [if_pos c]
    split
    · rw [List.length_set]; omega
    · rename_i h
      rw [List.length_append]
      unfold setC at c
      rw [if_neg h] at c
      split at c
      · omega
      · split at c
        · omega
        · split at c
          · omega
          · simp; omega
  · rw [if_neg c]; omega
end Go.Proofs.Ytcbbhefgdonabaa.Bt
/- A function's own blocks beside an arena (Fr), or where there is none (Fb); for seats without a buddy. -/
namespace Go.Proofs.Ytcbbhefgdonabaa.Bt
open Go Go.RowKit Go.Shelf
set_option linter.unusedVariables false
set_option linter.unusedSimpArgs false
structure Blk where
  r : Nat
  c : Array Value
  t : TypeId
def NotAr (t : TypeId) : Prop := t ≠ 99 ∧ t ≠ 100 ∧ t ≠ 102
/-- blocks that came since a world w0, beside the arena in block A -/
structure Fr (A : Nat) (w0 : World) (L : List Blk) (x : World) : Prop where
  bs : ∀ y ∈ L, x.heap[y.r]? = some (.cells y.c y.t (0, 0)) ∧ Mine A y.r x ∧ w0.heap.size ≤ y.r ∧ NotAr y.t
  nd : L.Pairwise fun a b => a.r ≠ b.r
  wt : Went A w0 x
section
variable {A : Nat} {s : ASt} {w0 x y : World} {L : List Blk}
theorem Fr.start (A : Nat) (w : World) : Fr A w [] w := ⟨(fun _ h => by cases h), .nil, Went.refl _ _⟩
theorem Fr.new (h : Fr A w0 L x) (ho : On A s x) (c : Array Value) (t : TypeId) (ht : NotAr t) : Fr A w0 (⟨x.heap.size, c, t⟩ :: L) (x.alloc (.cells c t)) := by
  have hb := bel1 x (.cells c t)
  have hg := Went.of_below ho hb
  refine ⟨fun z hz => ?_, ?_, h.wt.trans hg⟩
  · rcases List.mem_cons.1 hz with rfl | hz
    · exact ⟨heap_new _ _, Mine.new ho _, h.wt.size, ht⟩
    · obtain ⟨a1, a2, a3, a4⟩ := h.bs z hz
      exact ⟨(hb.block _ a2.lt).trans a1, a2.went hg, a3, a4⟩
  · refine List.pairwise_cons.2 ⟨fun z hz => ?_, h.nd⟩
    have := (h.bs z hz).2.1.lt
    show x.heap.size ≠ z.r
    omega
theorem Fr.went (h : Fr A w0 L x) (ho : On A s x) (hg : Went A x y) : Fr A w0 L y :=
  ⟨fun z hz => by
    obtain ⟨a1, a2, a3, a4⟩ := h.bs z hz
    exact ⟨hg.keep ho a1 a4.1 a4.2.1 a4.2.2, a2.went hg, a3, a4⟩, h.nd, h.wt.trans hg⟩
theorem Fr.below (h : Fr A w0 L x) (ho : On A s x) (hb : Below x.heap.size x y) : Fr A w0 L y := h.went ho (Went.of_below ho hb)
theorem Fr.at {L1 L2 : List Blk} {b : Blk} (h : Fr A w0 (L1 ++ b :: L2) x) : x.heap[b.r]? = some (.cells b.c b.t (0, 0)) := (h.bs b (by simp)).1
theorem Fr.mine {L1 L2 : List Blk} {b : Blk} (h : Fr A w0 (L1 ++ b :: L2) x) : Mine A b.r x := (h.bs b (by simp)).2.1
theorem Fr.ge {L1 L2 : List Blk} {b : Blk} (h : Fr A w0 (L1 ++ b :: L2) x) : w0.heap.size ≤ b.r := (h.bs b (by simp)).2.2.1
theorem Fr.ne {L1 L2 : List Blk} {b : Blk} (h : Fr A w0 (L1 ++ b :: L2) x) {z : Blk} (hz : z ∈ L1 ∨ z ∈ L2) : z.r ≠ b.r := by
  have := List.pairwise_append.1 h.nd
  rcases hz with hz | hz
  · exact this.2.2 z hz b (List.mem_cons_self ..)
  · exact fun e => (List.pairwise_cons.1 this.2.1).1 z hz e.symm
theorem Fr.cell {L1 L2 : List Blk} {b : Blk} (h : Fr A w0 (L1 ++ b :: L2) x) (k : Nat) {v : Value} (hv : b.c[k]? = some v) : x.cell? ⟨b.r, k, none⟩ = some v ∧ x.frozen? ⟨b.r, k, none⟩ = false :=
  ⟨((cell_blk h.at k).1).trans hv, (cell_blk h.at k).2⟩
theorem Fr.set {L1 L2 : List Blk} {b : Blk} (h : Fr A w0 (L1 ++ b :: L2) x) (ho : On A s x) (k : Nat) (v : Value) : Fr A w0 (L1 ++ ⟨b.r, b.c.setIfInBounds k v, b.t⟩ :: L2) (x.setCell ⟨b.r, k, none⟩ v) := by
  have hm := h.mine
  refine ⟨fun z hz => ?_, ?_, h.wt.set ho hm h.ge k v⟩
  · rcases List.mem_append.1 hz with hz | hz
    · obtain ⟨a1, a2, a3, a4⟩ := h.bs z (List.mem_append.2 (.inl hz))
      exact ⟨(set_other v (h.ne (.inl hz))).trans a1, Mine.set ho hm a2 k v, a3, a4⟩
    · rcases List.mem_cons.1 hz with rfl | hz
      · exact ⟨heap_set h.at v, Mine.set ho hm hm k v, h.ge, (h.bs b (by simp)).2.2.2⟩
      · obtain ⟨a1, a2, a3, a4⟩ := h.bs z (List.mem_append.2 (.inr (List.mem_cons_of_mem _ hz)))
        exact ⟨(set_other v (h.ne (.inr hz))).trans a1, Mine.set ho hm a2 k v, a3, a4⟩
  · have := List.pairwise_append.1 h.nd
    have h2 := List.pairwise_cons.1 this.2.1
    refine List.pairwise_append.2 ⟨this.1, List.pairwise_cons.2 ⟨h2.1, h2.2⟩, fun a ha c hc => ?_⟩
    rcases List.mem_cons.1 hc with rfl | hc
    · exact this.2.2 a ha b (List.mem_cons_self ..)
    · exact this.2.2 a ha c (List.mem_cons_of_mem _ hc)
/-- a block that isn't needed any more -/
theorem Fr.drop {L1 L2 : List Blk} {b : Blk} (h : Fr A w0 (L1 ++ b :: L2) x) : Fr A w0 (L1 ++ L2) x :=
  ⟨fun z hz => h.bs z (by
    rcases List.mem_append.1 hz with hz | hz
    · exact List.mem_append.2 (.inl hz)
    · exact List.mem_append.2 (.inr (List.mem_cons_of_mem _ hz))), h.nd.sublist (by simp), h.wt⟩
/-- some cells stored one behind the other -/
def stR (x : World) (B : Nat) : List Value → Nat → World
  | [], _ => x
  | v :: t, k => stR (x.setCell ⟨B, k, none⟩ v) B t (k + 1)
def setR (c : Array Value) : List Value → Nat → Array Value
  | [], _ => c
  | v :: t, k => setR (c.setIfInBounds k v) t (k + 1)
theorem Fr.stores {L1 L2 : List Blk} {R : Nat} {t : TypeId} : ∀ (vs : List Value) (k : Nat) (x : World) (c : Array Value), Fr A w0 (L1 ++ ⟨R, c, t⟩ :: L2) x → On A s x → Fr A w0 (L1 ++ ⟨R, setR c vs k, t⟩ :: L2) (stR x R vs k) ∧ On A s (stR x R vs k)
  | [], _, _, _, h, ho => ⟨h, ho⟩
  | v :: vs, k, x, c, h, ho => Fr.stores vs (k + 1) _ _ (h.set ho k v) (ho.set h.mine k v)
theorem stR_other {R j : Nat} (hj : j ≠ R) : ∀ (vs : List Value) (k : Nat) (x : World), (stR x R vs k).heap[j]? = x.heap[j]?
  | [], _, _ => rfl
  | v :: vs, k, x => (stR_other hj vs (k + 1) _).trans (set_other v hj)
theorem Base.stores {R : Nat} (hR : w0.heap.size ≤ R) : ∀ (vs : List Value) (k : Nat) (x : World), Base A w0 x → On A s x → Mine A R x → Base A w0 (stR x R vs k)
  | [], _, _, h, _, _ => h
  | v :: vs, k, x, h, ho, hm => Base.stores hR vs (k + 1) _ (h.set ho hm hR k v) (ho.set hm k v) (Mine.set ho hm hm k v)
theorem Fr.at0 {R : Nat} {c : Array Value} {t : TypeId} {L2 : List Blk} (h : Fr A w0 (⟨R, c, t⟩ :: L2) x) : x.heap[R]? = some (.cells c t (0, 0)) := Fr.at (L1 := []) h
theorem Fr.cell0 {R : Nat} {c : Array Value} {t : TypeId} {L2 : List Blk} (h : Fr A w0 (⟨R, c, t⟩ :: L2) x) (k : Nat) {v : Value} (hv : c[k]? = some v) : x.cell? ⟨R, k, none⟩ = some v := (Fr.cell (L1 := []) h k hv).1
theorem Fr.free0 {R : Nat} {c : Array Value} {t : TypeId} {L2 : List Blk} (h : Fr A w0 (⟨R, c, t⟩ :: L2) x) (k : Nat) : x.frozen? ⟨R, k, none⟩ = false := (cell_blk (Fr.at (L1 := []) h) k).2
theorem Fr.mine0 {R : Nat} {c : Array Value} {t : TypeId} {L2 : List Blk} (h : Fr A w0 (⟨R, c, t⟩ :: L2) x) : Mine A R x := Fr.mine (L1 := []) h
theorem Fr.ge0 {R : Nat} {c : Array Value} {t : TypeId} {L2 : List Blk} (h : Fr A w0 (⟨R, c, t⟩ :: L2) x) : w0.heap.size ≤ R := Fr.ge (L1 := []) h
theorem Fr.no0 {R : Nat} {c : Array Value} {t : TypeId} {L2 : List Blk} (h : Fr A w0 (⟨R, c, t⟩ :: L2) x) : NotAr t := (h.bs ⟨R, c, t⟩ (by simp)).2.2.2
theorem Fr.stores0 {R : Nat} {c : Array Value} {t : TypeId} {L2 : List Blk} (h : Fr A w0 (⟨R, c, t⟩ :: L2) x) (ho : On A s x) (vs : List Value) (k : Nat) : Fr A w0 (⟨R, setR c vs k, t⟩ :: L2) (stR x R vs k) := (Fr.stores (L1 := []) vs k x c h ho).1
theorem Fr.drop0 {R : Nat} {c : Array Value} {t : TypeId} {L2 : List Blk} (h : Fr A w0 (⟨R, c, t⟩ :: L2) x) : Fr A w0 (L2) x := Fr.drop (L1 := []) h
theorem Fr.at1 {a0 : Blk} {R : Nat} {c : Array Value} {t : TypeId} {L2 : List Blk} (h : Fr A w0 (a0 :: ⟨R, c, t⟩ :: L2) x) : x.heap[R]? = some (.cells c t (0, 0)) := Fr.at (L1 := [a0]) h
theorem Fr.cell1 {a0 : Blk} {R : Nat} {c : Array Value} {t : TypeId} {L2 : List Blk} (h : Fr A w0 (a0 :: ⟨R, c, t⟩ :: L2) x) (k : Nat) {v : Value} (hv : c[k]? = some v) : x.cell? ⟨R, k, none⟩ = some v := (Fr.cell (L1 := [a0]) h k hv).1
theorem Fr.free1 {a0 : Blk} {R : Nat} {c : Array Value} {t : TypeId} {L2 : List Blk} (h : Fr A w0 (a0 :: ⟨R, c, t⟩ :: L2) x) (k : Nat) : x.frozen? ⟨R, k, none⟩ = false := (cell_blk (Fr.at (L1 := [a0]) h) k).2
theorem Fr.mine1 {a0 : Blk} {R : Nat} {c : Array Value} {t : TypeId} {L2 : List Blk} (h : Fr A w0 (a0 :: ⟨R, c, t⟩ :: L2) x) : Mine A R x := Fr.mine (L1 := [a0]) h
theorem Fr.ge1 {a0 : Blk} {R : Nat} {c : Array Value} {t : TypeId} {L2 : List Blk} (h : Fr A w0 (a0 :: ⟨R, c, t⟩ :: L2) x) : w0.heap.size ≤ R := Fr.ge (L1 := [a0]) h
theorem Fr.no1 {a0 : Blk} {R : Nat} {c : Array Value} {t : TypeId} {L2 : List Blk} (h : Fr A w0 (a0 :: ⟨R, c, t⟩ :: L2) x) : NotAr t := (h.bs ⟨R, c, t⟩ (by simp)).2.2.2
theorem Fr.stores1 {a0 : Blk} {R : Nat} {c : Array Value} {t : TypeId} {L2 : List Blk} (h : Fr A w0 (a0 :: ⟨R, c, t⟩ :: L2) x) (ho : On A s x) (vs : List Value) (k : Nat) : Fr A w0 (a0 :: ⟨R, setR c vs k, t⟩ :: L2) (stR x R vs k) := (Fr.stores (L1 := [a0]) vs k x c h ho).1
theorem Fr.drop1 {a0 : Blk} {R : Nat} {c : Array Value} {t : TypeId} {L2 : List Blk} (h : Fr A w0 (a0 :: ⟨R, c, t⟩ :: L2) x) : Fr A w0 (a0 :: L2) x := Fr.drop (L1 := [a0]) h
theorem Fr.at2 {a0 a1 : Blk} {R : Nat} {c : Array Value} {t : TypeId} {L2 : List Blk} (h : Fr A w0 (a0 :: a1 :: ⟨R, c, t⟩ :: L2) x) : x.heap[R]? = some (.cells c t (0, 0)) := Fr.at (L1 := [a0, a1]) h
theorem Fr.cell2 {a0 a1 : Blk} {R : Nat} {c : Array Value} {t : TypeId} {L2 : List Blk} (h : Fr A w0 (a0 :: a1 :: ⟨R, c, t⟩ :: L2) x) (k : Nat) {v : Value} (hv : c[k]? = some v) : x.cell? ⟨R, k, none⟩ = some v := (Fr.cell (L1 := [a0, a1]) h k hv).1
theorem Fr.free2 {a0 a1 : Blk} {R : Nat} {c : Array Value} {t : TypeId} {L2 : List Blk} (h : Fr A w0 (a0 :: a1 :: ⟨R, c, t⟩ :: L2) x) (k : Nat) : x.frozen? ⟨R, k, none⟩ = false := (cell_blk (Fr.at (L1 := [a0, a1]) h) k).2
theorem Fr.mine2 {a0 a1 : Blk} {R : Nat} {c : Array Value} {t : TypeId} {L2 : List Blk} (h : Fr A w0 (a0 :: a1 :: ⟨R, c, t⟩ :: L2) x) : Mine A R x := Fr.mine (L1 := [a0, a1]) h
theorem Fr.ge2 {a0 a1 : Blk} {R : Nat} {c : Array Value} {t : TypeId} {L2 : List Blk} (h : Fr A w0 (a0 :: a1 :: ⟨R, c, t⟩ :: L2) x) : w0.heap.size ≤ R := Fr.ge (L1 := [a0, a1]) h
theorem Fr.no2 {a0 a1 : Blk} {R : Nat} {c : Array Value} {t : TypeId} {L2 : List Blk} (h : Fr A w0 (a0 :: a1 :: ⟨R, c, t⟩ :: L2) x) : NotAr t := (h.bs ⟨R, c, t⟩ (by simp)).2.2.2
theorem Fr.stores2 {a0 a1 : Blk} {R : Nat} {c : Array Value} {t : TypeId} {L2 : List Blk} (h : Fr A w0 (a0 :: a1 :: ⟨R, c, t⟩ :: L2) x) (ho : On A s x) (vs : List Value) (k : Nat) : Fr A w0 (a0 :: a1 :: ⟨R, setR c vs k, t⟩ :: L2) (stR x R vs k) := (Fr.stores (L1 := [a0, a1]) vs k x c h ho).1
theorem Fr.drop2 {a0 a1 : Blk} {R : Nat} {c : Array Value} {t : TypeId} {L2 : List Blk} (h : Fr A w0 (a0 :: a1 :: ⟨R, c, t⟩ :: L2) x) : Fr A w0 (a0 :: a1 :: L2) x := Fr.drop (L1 := [a0, a1]) h
theorem Fr.at3 {a0 a1 a2 : Blk} {R : Nat} {c : Array Value} {t : TypeId} {L2 : List Blk} (h : Fr A w0 (a0 :: a1 :: a2 :: ⟨R, c, t⟩ :: L2) x) : x.heap[R]? = some (.cells c t (0, 0)) := Fr.at (L1 := [a0, a1, a2]) h
theorem Fr.cell3 {a0 a1 a2 : Blk} {R : Nat} {c : Array Value} {t : TypeId} {L2 : List Blk} (h : Fr A w0 (a0 :: a1 :: a2 :: ⟨R, c, t⟩ :: L2) x) (k : Nat) {v : Value} (hv : c[k]? = some v) : x.cell? ⟨R, k, none⟩ = some v := (Fr.cell (L1 := [a0, a1, a2]) h k hv).1
theorem Fr.free3 {a0 a1 a2 : Blk} {R : Nat} {c : Array Value} {t : TypeId} {L2 : List Blk} (h : Fr A w0 (a0 :: a1 :: a2 :: ⟨R, c, t⟩ :: L2) x) (k : Nat) : x.frozen? ⟨R, k, none⟩ = false := (cell_blk (Fr.at (L1 := [a0, a1, a2]) h) k).2
theorem Fr.mine3 {a0 a1 a2 : Blk} {R : Nat} {c : Array Value} {t : TypeId} {L2 : List Blk} (h : Fr A w0 (a0 :: a1 :: a2 :: ⟨R, c, t⟩ :: L2) x) : Mine A R x := Fr.mine (L1 := [a0, a1, a2]) h
theorem Fr.ge3 {a0 a1 a2 : Blk} {R : Nat} {c : Array Value} {t : TypeId} {L2 : List Blk} (h : Fr A w0 (a0 :: a1 :: a2 :: ⟨R, c, t⟩ :: L2) x) : w0.heap.size ≤ R := Fr.ge (L1 := [a0, a1, a2]) h
theorem Fr.no3 {a0 a1 a2 : Blk} {R : Nat} {c : Array Value} {t : TypeId} {L2 : List Blk} (h : Fr A w0 (a0 :: a1 :: a2 :: ⟨R, c, t⟩ :: L2) x) : NotAr t := (h.bs ⟨R, c, t⟩ (by simp)).2.2.2
theorem Fr.stores3 {a0 a1 a2 : Blk} {R : Nat} {c : Array Value} {t : TypeId} {L2 : List Blk} (h : Fr A w0 (a0 :: a1 :: a2 :: ⟨R, c, t⟩ :: L2) x) (ho : On A s x) (vs : List Value) (k : Nat) : Fr A w0 (a0 :: a1 :: a2 :: ⟨R, setR c vs k, t⟩ :: L2) (stR x R vs k) := (Fr.stores (L1 := [a0, a1, a2]) vs k x c h ho).1
theorem Fr.drop3 {a0 a1 a2 : Blk} {R : Nat} {c : Array Value} {t : TypeId} {L2 : List Blk} (h : Fr A w0 (a0 :: a1 :: a2 :: ⟨R, c, t⟩ :: L2) x) : Fr A w0 (a0 :: a1 :: a2 :: L2) x := Fr.drop (L1 := [a0, a1, a2]) h
theorem Fr.at4 {a0 a1 a2 a3 : Blk} {R : Nat} {c : Array Value} {t : TypeId} {L2 : List Blk} (h : Fr A w0 (a0 :: a1 :: a2 :: a3 :: ⟨R, c, t⟩ :: L2) x) : x.heap[R]? = some (.cells c t (0, 0)) := Fr.at (L1 := [a0, a1, a2, a3]) h
theorem Fr.cell4 {a0 a1 a2 a3 : Blk} {R : Nat} {c : Array Value} {t : TypeId} {L2 : List Blk} (h : Fr A w0 (a0 :: a1 :: a2 :: a3 :: ⟨R, c, t⟩ :: L2) x) (k : Nat) {v : Value} (hv : c[k]? = some v) : x.cell? ⟨R, k, none⟩ = some v := (Fr.cell (L1 := [a0, a1, a2, a3]) h k hv).1
theorem Fr.free4 {a0 a1 a2 a3 : Blk} {R : Nat} {c : Array Value} {t : TypeId} {L2 : List Blk} (h : Fr A w0 (a0 :: a1 :: a2 :: a3 :: ⟨R, c, t⟩ :: L2) x) (k : Nat) : x.frozen? ⟨R, k, none⟩ = false := (cell_blk (Fr.at (L1 := [a0, a1, a2, a3]) h) k).2
theorem Fr.mine4 {a0 a1 a2 a3 : Blk} {R : Nat} {c : Array Value} {t : TypeId} {L2 : List Blk} (h : Fr A w0 (a0 :: a1 :: a2 :: a3 :: ⟨R, c, t⟩ :: L2) x) : Mine A R x := Fr.mine (L1 := [a0, a1, a2, a3]) h
theorem Fr.ge4 {a0 a1 a2 a3 : Blk} {R : Nat} {c : Array Value} {t : TypeId} {L2 : List Blk} (h : Fr A w0 (a0 :: a1 :: a2 :: a3 :: ⟨R, c, t⟩ :: L2) x) : w0.heap.size ≤ R := Fr.ge (L1 := [a0, a1, a2, a3]) h
theorem Fr.no4 {a0 a1 a2 a3 : Blk} {R : Nat} {c : Array Value} {t : TypeId} {L2 : List Blk} (h : Fr A w0 (a0 :: a1 :: a2 :: a3 :: ⟨R, c, t⟩ :: L2) x) : NotAr t := (h.bs ⟨R, c, t⟩ (by simp)).2.2.2
theorem Fr.stores4 {a0 a1 a2 a3 : Blk} {R : Nat} {c : Array Value} {t : TypeId} {L2 : List Blk} (h : Fr A w0 (a0 :: a1 :: a2 :: a3 :: ⟨R, c, t⟩ :: L2) x) (ho : On A s x) (vs : List Value) (k : Nat) : Fr A w0 (a0 :: a1 :: a2 :: a3 :: ⟨R, setR c vs k, t⟩ :: L2) (stR x R vs k) := (Fr.stores (L1 := [a0, a1, a2, a3]) vs k x c h ho).1
theorem Fr.drop4 {a0 a1 a2 a3 : Blk} {R : Nat} {c : Array Value} {t : TypeId} {L2 : List Blk} (h : Fr A w0 (a0 :: a1 :: a2 :: a3 :: ⟨R, c, t⟩ :: L2) x) : Fr A w0 (a0 :: a1 :: a2 :: a3 :: L2) x := Fr.drop (L1 := [a0, a1, a2, a3]) h
theorem Fr.at5 {a0 a1 a2 a3 a4 : Blk} {R : Nat} {c : Array Value} {t : TypeId} {L2 : List Blk} (h : Fr A w0 (a0 :: a1 :: a2 :: a3 :: a4 :: ⟨R, c, t⟩ :: L2) x) : x.heap[R]? = some (.cells c t (0, 0)) := Fr.at (L1 := [a0, a1, a2, a3, a4]) h
theorem Fr.cell5 {a0 a1 a2 a3 a4 : Blk} {R : Nat} {c : Array Value} {t : TypeId} {L2 : List Blk} (h : Fr A w0 (a0 :: a1 :: a2 :: a3 :: a4 :: ⟨R, c, t⟩ :: L2) x) (k : Nat) {v : Value} (hv : c[k]? = some v) : x.cell? ⟨R, k, none⟩ = some v := (Fr.cell (L1 := [a0, a1, a2, a3, a4]) h k hv).1
theorem Fr.free5 {a0 a1 a2 a3 a4 : Blk} {R : Nat} {c : Array Value} {t : TypeId} {L2 : List Blk} (h : Fr A w0 (a0 :: a1 :: a2 :: a3 :: a4 :: ⟨R, c, t⟩ :: L2) x) (k : Nat) : x.frozen? ⟨R, k, none⟩ = false := (cell_blk (Fr.at (L1 := [a0, a1, a2, a3, a4]) h) k).2
theorem Fr.mine5 {a0 a1 a2 a3 a4 : Blk} {R : Nat} {c : Array Value} {t : TypeId} {L2 : List Blk} (h : Fr A w0 (a0 :: a1 :: a2 :: a3 :: a4 :: ⟨R, c, t⟩ :: L2) x) : Mine A R x := Fr.mine (L1 := [a0, a1, a2, a3, a4]) h
theorem Fr.ge5 {a0 a1 a2 a3 a4 : Blk} {R : Nat} {c : Array Value} {t : TypeId} {L2 : List Blk} (h : Fr A w0 (a0 :: a1 :: a2 :: a3 :: a4 :: ⟨R, c, t⟩ :: L2) x) : w0.heap.size ≤ R := Fr.ge (L1 := [a0, a1, a2, a3, a4]) h
theorem Fr.no5 {a0 a1 a2 a3 a4 : Blk} {R : Nat} {c : Array Value} {t : TypeId} {L2 : List Blk} (h : Fr A w0 (a0 :: a1 :: a2 :: a3 :: a4 :: ⟨R, c, t⟩ :: L2) x) : NotAr t := (h.bs ⟨R, c, t⟩ (by simp)).2.2.2
theorem Fr.stores5 {a0 a1 a2 a3 a4 : Blk} {R : Nat} {c : Array Value} {t : TypeId} {L2 : List Blk} (h : Fr A w0 (a0 :: a1 :: a2 :: a3 :: a4 :: ⟨R, c, t⟩ :: L2) x) (ho : On A s x) (vs : List Value) (k : Nat) : Fr A w0 (a0 :: a1 :: a2 :: a3 :: a4 :: ⟨R, setR c vs k, t⟩ :: L2) (stR x R vs k) := (Fr.stores (L1 := [a0, a1, a2, a3, a4]) vs k x c h ho).1
theorem Fr.drop5 {a0 a1 a2 a3 a4 : Blk} {R : Nat} {c : Array Value} {t : TypeId} {L2 : List Blk} (h : Fr A w0 (a0 :: a1 :: a2 :: a3 :: a4 :: ⟨R, c, t⟩ :: L2) x) : Fr A w0 (a0 :: a1 :: a2 :: a3 :: a4 :: L2) x := Fr.drop (L1 := [a0, a1, a2, a3, a4]) h
end
structure Fb (w0 : World) (L : List Blk) (x : World) : Prop where
  bs : ∀ y ∈ L, x.heap[y.r]? = some (.cells y.c y.t (0, 0)) ∧ w0.heap.size ≤ y.r
  nd : L.Pairwise fun a b => a.r ≠ b.r
  be : Below w0.heap.size w0 x
section
variable {w0 x y : World} {L : List Blk}
theorem Fb.start (w : World) : Fb w [] w := ⟨(fun _ h => by cases h), .nil, Below.refl _ _⟩
theorem Fb.new (h : Fb w0 L x) (c : Array Value) (t : TypeId) : Fb w0 (⟨x.heap.size, c, t⟩ :: L) (x.alloc (.cells c t)) := by
  have hb := bel1 x (.cells c t)
  refine ⟨fun z hz => ?_, ?_, h.be.trans (hb.mono h.be.size)⟩
  · rcases List.mem_cons.1 hz with rfl | hz
    · exact ⟨heap_new _ _, h.be.size⟩
    · obtain ⟨a1, a3⟩ := h.bs z hz
      exact ⟨(hb.block _ (Array.getElem?_eq_some_iff.1 a1).1).trans a1, a3⟩
  · refine List.pairwise_cons.2 ⟨fun z hz => ?_, h.nd⟩
    have := (Array.getElem?_eq_some_iff.1 (h.bs z hz).1).1
    show x.heap.size ≠ z.r
    omega
theorem Fb.below (h : Fb w0 L x) (hb : Below x.heap.size x y) : Fb w0 L y :=
  ⟨fun z hz => by
    obtain ⟨a1, a3⟩ := h.bs z hz
    exact ⟨(hb.block _ (Array.getElem?_eq_some_iff.1 a1).1).trans a1, a3⟩, h.nd, h.be.trans (hb.mono h.be.size)⟩
theorem Fb.at {L1 L2 : List Blk} {b : Blk} (h : Fb w0 (L1 ++ b :: L2) x) : x.heap[b.r]? = some (.cells b.c b.t (0, 0)) := (h.bs b (by simp)).1
theorem Fb.ge {L1 L2 : List Blk} {b : Blk} (h : Fb w0 (L1 ++ b :: L2) x) : w0.heap.size ≤ b.r := (h.bs b (by simp)).2
theorem Fb.ne {L1 L2 : List Blk} {b : Blk} (h : Fb w0 (L1 ++ b :: L2) x) {z : Blk} (hz : z ∈ L1 ∨ z ∈ L2) : z.r ≠ b.r := by
  have := List.pairwise_append.1 h.nd
  rcases hz with hz | hz
  · exact this.2.2 z hz b (List.mem_cons_self ..)
  · exact fun e => (List.pairwise_cons.1 this.2.1).1 z hz e.symm
theorem Fb.set {L1 L2 : List Blk} {b : Blk} (h : Fb w0 (L1 ++ b :: L2) x) (k : Nat) (v : Value) : Fb w0 (L1 ++ ⟨b.r, b.c.setIfInBounds k v, b.t⟩ :: L2) (x.setCell ⟨b.r, k, none⟩ v) := by
  refine ⟨fun z hz => ?_, ?_, h.be.setCell (p := ⟨b.r, k, none⟩) h.ge v⟩
  · rcases List.mem_append.1 hz with hz | hz
    · obtain ⟨a1, a3⟩ := h.bs z (List.mem_append.2 (.inl hz))
      exact ⟨(set_other v (h.ne (.inl hz))).trans a1, a3⟩
    · rcases List.mem_cons.1 hz with rfl | hz
      · exact ⟨heap_set h.at v, h.ge⟩
      · obtain ⟨a1, a3⟩ := h.bs z (List.mem_append.2 (.inr (List.mem_cons_of_mem _ hz)))
        exact ⟨(set_other v (h.ne (.inr hz))).trans a1, a3⟩
  · have := List.pairwise_append.1 h.nd
    have h2 := List.pairwise_cons.1 this.2.1
    refine List.pairwise_append.2 ⟨this.1, List.pairwise_cons.2 ⟨h2.1, h2.2⟩, fun a ha c hc => ?_⟩
    rcases List.mem_cons.1 hc with rfl | hc
    · exact this.2.2 a ha b (List.mem_cons_self ..)
    · exact this.2.2 a ha c (List.mem_cons_of_mem _ hc)
theorem Fb.drop {L1 L2 : List Blk} {b : Blk} (h : Fb w0 (L1 ++ b :: L2) x) : Fb w0 (L1 ++ L2) x :=
  ⟨fun z hz => h.bs z (by
    rcases List.mem_append.1 hz with hz | hz
    · exact List.mem_append.2 (.inl hz)
    · exact List.mem_append.2 (.inr (List.mem_cons_of_mem _ hz))), h.nd.sublist (by simp), h.be⟩
theorem Fb.stores {L1 L2 : List Blk} {R : Nat} {t : TypeId} : ∀ (vs : List Value) (k : Nat) (x : World) (c : Array Value), Fb w0 (L1 ++ ⟨R, c, t⟩ :: L2) x → Fb w0 (L1 ++ ⟨R, setR c vs k, t⟩ :: L2) (stR x R vs k)
  | [], _, _, _, h => h
  | v :: vs, k, x, c, h => Fb.stores vs (k + 1) _ _ (h.set k v)
theorem stR_size (R : Nat) : ∀ (vs : List Value) (k : Nat) (x : World), (stR x R vs k).heap.size = x.heap.size
  | [], _, _ => rfl
  | v :: vs, k, x => (stR_size R vs (k + 1) _).trans (by simp [World.setCell])
theorem Fb.at0 {R : Nat} {c : Array Value} {t : TypeId} {L2 : List Blk} (h : Fb w0 (⟨R, c, t⟩ :: L2) x) : x.heap[R]? = some (.cells c t (0, 0)) := Fb.at (L1 := []) h
theorem Fb.cell0 {R : Nat} {c : Array Value} {t : TypeId} {L2 : List Blk} (h : Fb w0 (⟨R, c, t⟩ :: L2) x) (k : Nat) {v : Value} (hv : c[k]? = some v) : x.cell? ⟨R, k, none⟩ = some v := ((cell_blk (Fb.at (L1 := []) h) k).1).trans hv
theorem Fb.free0 {R : Nat} {c : Array Value} {t : TypeId} {L2 : List Blk} (h : Fb w0 (⟨R, c, t⟩ :: L2) x) (k : Nat) : x.frozen? ⟨R, k, none⟩ = false := (cell_blk (Fb.at (L1 := []) h) k).2
theorem Fb.ge0 {R : Nat} {c : Array Value} {t : TypeId} {L2 : List Blk} (h : Fb w0 (⟨R, c, t⟩ :: L2) x) : w0.heap.size ≤ R := Fb.ge (L1 := []) h
theorem Fb.stores0 {R : Nat} {c : Array Value} {t : TypeId} {L2 : List Blk} (h : Fb w0 (⟨R, c, t⟩ :: L2) x) (vs : List Value) (k : Nat) : Fb w0 (⟨R, setR c vs k, t⟩ :: L2) (stR x R vs k) := Fb.stores (L1 := []) vs k x c h
theorem Fb.drop0 {R : Nat} {c : Array Value} {t : TypeId} {L2 : List Blk} (h : Fb w0 (⟨R, c, t⟩ :: L2) x) : Fb w0 (L2) x := Fb.drop (L1 := []) h
theorem Fb.at1 {a0 : Blk} {R : Nat} {c : Array Value} {t : TypeId} {L2 : List Blk} (h : Fb w0 (a0 :: ⟨R, c, t⟩ :: L2) x) : x.heap[R]? = some (.cells c t (0, 0)) := Fb.at (L1 := [a0]) h
theorem Fb.cell1 {a0 : Blk} {R : Nat} {c : Array Value} {t : TypeId} {L2 : List Blk} (h : Fb w0 (a0 :: ⟨R, c, t⟩ :: L2) x) (k : Nat) {v : Value} (hv : c[k]? = some v) : x.cell? ⟨R, k, none⟩ = some v := ((cell_blk (Fb.at (L1 := [a0]) h) k).1).trans hv
theorem Fb.free1 {a0 : Blk} {R : Nat} {c : Array Value} {t : TypeId} {L2 : List Blk} (h : Fb w0 (a0 :: ⟨R, c, t⟩ :: L2) x) (k : Nat) : x.frozen? ⟨R, k, none⟩ = false := (cell_blk (Fb.at (L1 := [a0]) h) k).2
theorem Fb.ge1 {a0 : Blk} {R : Nat} {c : Array Value} {t : TypeId} {L2 : List Blk} (h : Fb w0 (a0 :: ⟨R, c, t⟩ :: L2) x) : w0.heap.size ≤ R := Fb.ge (L1 := [a0]) h
theorem Fb.stores1 {a0 : Blk} {R : Nat} {c : Array Value} {t : TypeId} {L2 : List Blk} (h : Fb w0 (a0 :: ⟨R, c, t⟩ :: L2) x) (vs : List Value) (k : Nat) : Fb w0 (a0 :: ⟨R, setR c vs k, t⟩ :: L2) (stR x R vs k) := Fb.stores (L1 := [a0]) vs k x c h
theorem Fb.drop1 {a0 : Blk} {R : Nat} {c : Array Value} {t : TypeId} {L2 : List Blk} (h : Fb w0 (a0 :: ⟨R, c, t⟩ :: L2) x) : Fb w0 (a0 :: L2) x := Fb.drop (L1 := [a0]) h
theorem Fb.at2 {a0 a1 : Blk} {R : Nat} {c : Array Value} {t : TypeId} {L2 : List Blk} (h : Fb w0 (a0 :: a1 :: ⟨R, c, t⟩ :: L2) x) : x.heap[R]? = some (.cells c t (0, 0)) := Fb.at (L1 := [a0, a1]) h
theorem Fb.cell2 {a0 a1 : Blk} {R : Nat} {c : Array Value} {t : TypeId} {L2 : List Blk} (h : Fb w0 (a0 :: a1 :: ⟨R, c, t⟩ :: L2) x) (k : Nat) {v : Value} (hv : c[k]? = some v) : x.cell? ⟨R, k, none⟩ = some v := ((cell_blk (Fb.at (L1 := [a0, a1]) h) k).1).trans hv
theorem Fb.free2 {a0 a1 : Blk} {R : Nat} {c : Array Value} {t : TypeId} {L2 : List Blk} (h : Fb w0 (a0 :: a1 :: ⟨R, c, t⟩ :: L2) x) (k : Nat) : x.frozen? ⟨R, k, none⟩ = false := (cell_blk (Fb.at (L1 := [a0, a1]) h) k).2
theorem Fb.ge2 {a0 a1 : Blk} {R : Nat} {c : Array Value} {t : TypeId} {L2 : List Blk} (h : Fb w0 (a0 :: a1 :: ⟨R, c, t⟩ :: L2) x) : w0.heap.size ≤ R := Fb.ge (L1 := [a0, a1]) h
theorem Fb.stores2 {a0 a1 : Blk} {R : Nat} {c : Array Value} {t : TypeId} {L2 : List Blk} (h : Fb w0 (a0 :: a1 :: ⟨R, c, t⟩ :: L2) x) (vs : List Value) (k : Nat) : Fb w0 (a0 :: a1 :: ⟨R, setR c vs k, t⟩ :: L2) (stR x R vs k) := Fb.stores (L1 := [a0, a1]) vs k x c h
theorem Fb.drop2 {a0 a1 : Blk} {R : Nat} {c : Array Value} {t : TypeId} {L2 : List Blk} (h : Fb w0 (a0 :: a1 :: ⟨R, c, t⟩ :: L2) x) : Fb w0 (a0 :: a1 :: L2) x := Fb.drop (L1 := [a0, a1]) h
theorem Fb.at3 {a0 a1 a2 : Blk} {R : Nat} {c : Array Value} {t : TypeId} {L2 : List Blk} (h : Fb w0 (a0 :: a1 :: a2 :: ⟨R, c, t⟩ :: L2) x) : x.heap[R]? = some (.cells c t (0, 0)) := Fb.at (L1 := [a0, a1, a2]) h
theorem Fb.cell3 {a0 a1 a2 : Blk} {R : Nat} {c : Array Value} {t : TypeId} {L2 : List Blk} (h : Fb w0 (a0 :: a1 :: a2 :: ⟨R, c, t⟩ :: L2) x) (k : Nat) {v : Value} (hv : c[k]? = some v) : x.cell? ⟨R, k, none⟩ = some v := ((cell_blk (Fb.at (L1 := [a0, a1, a2]) h) k).1).trans hv
theorem Fb.free3 {a0 a1 a2 : Blk} {R : Nat} {c : Array Value} {t : TypeId} {L2 : List Blk} (h : Fb w0 (a0 :: a1 :: a2 :: ⟨R, c, t⟩ :: L2) x) (k : Nat) : x.frozen? ⟨R, k, none⟩ = false := (cell_blk (Fb.at (L1 := [a0, a1, a2]) h) k).2
theorem Fb.ge3 {a0 a1 a2 : Blk} {R : Nat} {c : Array Value} {t : TypeId} {L2 : List Blk} (h : Fb w0 (a0 :: a1 :: a2 :: ⟨R, c, t⟩ :: L2) x) : w0.heap.size ≤ R := Fb.ge (L1 := [a0, a1, a2]) h
theorem Fb.stores3 {a0 a1 a2 : Blk} {R : Nat} {c : Array Value} {t : TypeId} {L2 : List Blk} (h : Fb w0 (a0 :: a1 :: a2 :: ⟨R, c, t⟩ :: L2) x) (vs : List Value) (k : Nat) : Fb w0 (a0 :: a1 :: a2 :: ⟨R, setR c vs k, t⟩ :: L2) (stR x R vs k) := Fb.stores (L1 := [a0, a1, a2]) vs k x c h
theorem Fb.drop3 {a0 a1 a2 : Blk} {R : Nat} {c : Array Value} {t : TypeId} {L2 : List Blk} (h : Fb w0 (a0 :: a1 :: a2 :: ⟨R, c, t⟩ :: L2) x) : Fb w0 (a0 :: a1 :: a2 :: L2) x := Fb.drop (L1 := [a0, a1, a2]) h
theorem Fb.at4 {a0 a1 a2 a3 : Blk} {R : Nat} {c : Array Value} {t : TypeId} {L2 : List Blk} (h : Fb w0 (a0 :: a1 :: a2 :: a3 :: ⟨R, c, t⟩ :: L2) x) : x.heap[R]? = some (.cells c t (0, 0)) := Fb.at (L1 := [a0, a1, a2, a3]) h
theorem Fb.cell4 {a0 a1 a2 a3 : Blk} {R : Nat} {c : Array Value} {t : TypeId} {L2 : List Blk} (h : Fb w0 (a0 :: a1 :: a2 :: a3 :: ⟨R, c, t⟩ :: L2) x) (k : Nat) {v : Value} (hv : c[k]? = some v) : x.cell? ⟨R, k, none⟩ = some v := ((cell_blk (Fb.at (L1 := [a0, a1, a2, a3]) h) k).1).trans hv
theorem Fb.free4 {a0 a1 a2 a3 : Blk} {R : Nat} {c : Array Value} {t : TypeId} {L2 : List Blk} (h : Fb w0 (a0 :: a1 :: a2 :: a3 :: ⟨R, c, t⟩ :: L2) x) (k : Nat) : x.frozen? ⟨R, k, none⟩ = false := (cell_blk (Fb.at (L1 := [a0, a1, a2, a3]) h) k).2
theorem Fb.ge4 {a0 a1 a2 a3 : Blk} {R : Nat} {c : Array Value} {t : TypeId} {L2 : List Blk} (h : Fb w0 (a0 :: a1 :: a2 :: a3 :: ⟨R, c, t⟩ :: L2) x) : w0.heap.size ≤ R := Fb.ge (L1 := [a0, a1, a2, a3]) h
theorem Fb.stores4 {a0 a1 a2 a3 : Blk} {R : Nat} {c : Array Value} {t : TypeId} {L2 : List Blk} (h : Fb w0 (a0 :: a1 :: a2 :: a3 :: ⟨R, c, t⟩ :: L2) x) (vs : List Value) (k : Nat) : Fb w0 (a0 :: a1 :: a2 :: a3 :: ⟨R, setR c vs k, t⟩ :: L2) (stR x R vs k) := Fb.stores (L1 := [a0, a1, a2, a3]) vs k x c h
theorem Fb.drop4 {a0 a1 a2 a3 : Blk} {R : Nat} {c : Array Value} {t : TypeId} {L2 : List Blk} (h : Fb w0 (a0 :: a1 :: a2 :: a3 :: ⟨R, c, t⟩ :: L2) x) : Fb w0 (a0 :: a1 :: a2 :: a3 :: L2) x := Fb.drop (L1 := [a0, a1, a2, a3]) h
theorem Fb.at5 {a0 a1 a2 a3 a4 : Blk} {R : Nat} {c : Array Value} {t : TypeId} {L2 : List Blk} (h : Fb w0 (a0 :: a1 :: a2 :: a3 :: a4 :: ⟨R, c, t⟩ :: L2) x) : x.heap[R]? = some (.cells c t (0, 0)) := Fb.at (L1 := [a0, a1, a2, a3, a4]) h
theorem Fb.cell5 {a0 a1 a2 a3 a4 : Blk} {R : Nat} {c : Array Value} {t : TypeId} {L2 : List Blk} (h : Fb w0 (a0 :: a1 :: a2 :: a3 :: a4 :: ⟨R, c, t⟩ :: L2) x) (k : Nat) {v : Value} (hv : c[k]? = some v) : x.cell? ⟨R, k, none⟩ = some v := ((cell_blk (Fb.at (L1 := [a0, a1, a2, a3, a4]) h) k).1).trans hv
theorem Fb.free5 {a0 a1 a2 a3 a4 : Blk} {R : Nat} {c : Array Value} {t : TypeId} {L2 : List Blk} (h : Fb w0 (a0 :: a1 :: a2 :: a3 :: a4 :: ⟨R, c, t⟩ :: L2) x) (k : Nat) : x.frozen? ⟨R, k, none⟩ = false := (cell_blk (Fb.at (L1 := [a0, a1, a2, a3, a4]) h) k).2
theorem Fb.ge5 {a0 a1 a2 a3 a4 : Blk} {R : Nat} {c : Array Value} {t : TypeId} {L2 : List Blk} (h : Fb w0 (a0 :: a1 :: a2 :: a3 :: a4 :: ⟨R, c, t⟩ :: L2) x) : w0.heap.size ≤ R := Fb.ge (L1 := [a0, a1, a2, a3, a4]) h
theorem Fb.stores5 {a0 a1 a2 a3 a4 : Blk} {R : Nat} {c : Array Value} {t : TypeId} {L2 : List Blk} (h : Fb w0 (a0 :: a1 :: a2 :: a3 :: a4 :: ⟨R, c, t⟩ :: L2) x) (vs : List Value) (k : Nat) : Fb w0 (a0 :: a1 :: a2 :: a3 :: a4 :: ⟨R, setR c vs k, t⟩ :: L2) (stR x R vs k) := Fb.stores (L1 := [a0, a1, a2, a3, a4]) vs k x c h
theorem Fb.drop5 {a0 a1 a2 a3 a4 : Blk} {R : Nat} {c : Array Value} {t : TypeId} {L2 : List Blk} (h : Fb w0 (a0 :: a1 :: a2 :: a3 :: a4 :: ⟨R, c, t⟩ :: L2) x) : Fb w0 (a0 :: a1 :: a2 :: a3 :: a4 :: L2) x := Fb.drop (L1 := [a0, a1, a2, a3, a4]) h
theorem setR_get : ∀ (vs : List Value) (k : Nat) (c : Array Value) (i : Nat), (setR c vs k)[i]? = if k ≤ i ∧ i < k + vs.length ∧ i < c.size then vs[i - k]? else c[i]?
  | [], k, c, i => by rw [if_neg (by simp; omega)]; rfl
  | v :: vs, k, c, i => by
    show (setR (c.setIfInBounds k v) vs (k + 1))[i]? = _
    rw [setR_get vs (k + 1) (c.setIfInBounds k v) i, Array.size_setIfInBounds]
    by_cases h1 : k + 1 ≤ i ∧ i < k + 1 + vs.length ∧ i < c.size
    · rw [if_pos h1, if_pos (by simp; omega), show i - k = (i - (k + 1)) + 1 from by omega]
      rfl
    · rw [if_neg h1]
      by_cases h2 : k ≤ i ∧ i < k + (v :: vs).length ∧ i < c.size
      · have e : i = k := by simp at h2; omega
        subst e
        rw [if_pos h2, Nat.sub_self]
        rw [Array.getElem?_setIfInBounds_self_of_lt h2.2.2]; rfl
      · rw [if_neg h2]
        by_cases e : i = k
        · subst e
          have : ¬ i < c.size := fun q => h2 ⟨Nat.le_refl _, by simp, q⟩
          rw [Array.setIfInBounds_eq_of_size_le (by omega)]
        · rw [Array.getElem?_setIfInBounds_ne (fun q => e q.symm)]
theorem setR_full (c : Array Value) (vs : List Value) (h : c.size = vs.length) : setR c vs 0 = vs.toArray := by
  apply Array.ext_getElem?
  intro i
  rw [setR_get, Nat.sub_zero]
  by_cases hi : i < vs.length
  · rw [if_pos ⟨Nat.zero_le _, by omega, by omega⟩, List.getElem?_toArray]
  · rw [if_neg (fun q => hi (by omega)), Array.getElem?_eq_none (by omega), Array.getElem?_eq_none (by rw [List.size_toArray]; omega)]
theorem Fb.full0 {R : Nat} {c : Array Value} {t : TypeId} {L2 : List Blk} (h : Fb w0 (⟨R, c, t⟩ :: L2) x) (vs : List Value) (hc : c.size = vs.length) : Fb w0 (⟨R, vs.toArray, t⟩ :: L2) (stR x R vs 0) := by
  have := h.stores0 vs 0; rwa [setR_full c vs hc] at this
theorem Fr.full0 {A : Nat} {s : ASt} {R : Nat} {c : Array Value} {t : TypeId} {L2 : List Blk} (h : Fr A w0 (⟨R, c, t⟩ :: L2) x) (ho : On A s x) (vs : List Value) (hc : c.size = vs.length) : Fr A w0 (⟨R, vs.toArray, t⟩ :: L2) (stR x R vs 0) := by
  have := h.stores0 ho vs 0; rwa [setR_full c vs hc] at this
theorem Fb.full1 {a0 : Blk} {R : Nat} {c : Array Value} {t : TypeId} {L2 : List Blk} (h : Fb w0 (a0 :: ⟨R, c, t⟩ :: L2) x) (vs : List Value) (hc : c.size = vs.length) : Fb w0 (a0 :: ⟨R, vs.toArray, t⟩ :: L2) (stR x R vs 0) := by
  have := h.stores1 vs 0; rwa [setR_full c vs hc] at this
theorem Fr.full1 {A : Nat} {s : ASt} {a0 : Blk} {R : Nat} {c : Array Value} {t : TypeId} {L2 : List Blk} (h : Fr A w0 (a0 :: ⟨R, c, t⟩ :: L2) x) (ho : On A s x) (vs : List Value) (hc : c.size = vs.length) : Fr A w0 (a0 :: ⟨R, vs.toArray, t⟩ :: L2) (stR x R vs 0) := by
  have := h.stores1 ho vs 0; rwa [setR_full c vs hc] at this
theorem Fb.full2 {a0 a1 : Blk} {R : Nat} {c : Array Value} {t : TypeId} {L2 : List Blk} (h : Fb w0 (a0 :: a1 :: ⟨R, c, t⟩ :: L2) x) (vs : List Value) (hc : c.size = vs.length) : Fb w0 (a0 :: a1 :: ⟨R, vs.toArray, t⟩ :: L2) (stR x R vs 0) := by
  have := h.stores2 vs 0; rwa [setR_full c vs hc] at this
theorem Fr.full2 {A : Nat} {s : ASt} {a0 a1 : Blk} {R : Nat} {c : Array Value} {t : TypeId} {L2 : List Blk} (h : Fr A w0 (a0 :: a1 :: ⟨R, c, t⟩ :: L2) x) (ho : On A s x) (vs : List Value) (hc : c.size = vs.length) : Fr A w0 (a0 :: a1 :: ⟨R, vs.toArray, t⟩ :: L2) (stR x R vs 0) := by
  have := h.stores2 ho vs 0; rwa [setR_full c vs hc] at this
theorem Fb.full3 {a0 a1 a2 : Blk} {R : Nat} {c : Array Value} {t : TypeId} {L2 : List Blk} (h : Fb w0 (a0 :: a1 :: a2 :: ⟨R, c, t⟩ :: L2) x) (vs : List Value) (hc : c.size = vs.length) : Fb w0 (a0 :: a1 :: a2 :: ⟨R, vs.toArray, t⟩ :: L2) (stR x R vs 0) := by
  have := h.stores3 vs 0; rwa [setR_full c vs hc] at this
theorem Fr.full3 {A : Nat} {s : ASt} {a0 a1 a2 : Blk} {R : Nat} {c : Array Value} {t : TypeId} {L2 : List Blk} (h : Fr A w0 (a0 :: a1 :: a2 :: ⟨R, c, t⟩ :: L2) x) (ho : On A s x) (vs : List Value) (hc : c.size = vs.length) : Fr A w0 (a0 :: a1 :: a2 :: ⟨R, vs.toArray, t⟩ :: L2) (stR x R vs 0) := by
  have := h.stores3 ho vs 0; rwa [setR_full c vs hc] at this
theorem Fb.full4 {a0 a1 a2 a3 : Blk} {R : Nat} {c : Array Value} {t : TypeId} {L2 : List Blk} (h : Fb w0 (a0 :: a1 :: a2 :: a3 :: ⟨R, c, t⟩ :: L2) x) (vs : List Value) (hc : c.size = vs.length) : Fb w0 (a0 :: a1 :: a2 :: a3 :: ⟨R, vs.toArray, t⟩ :: L2) (stR x R vs 0) := by
  have := h.stores4 vs 0; rwa [setR_full c vs hc] at this
theorem Fr.full4 {A : Nat} {s : ASt} {a0 a1 a2 a3 : Blk} {R : Nat} {c : Array Value} {t : TypeId} {L2 : List Blk} (h : Fr A w0 (a0 :: a1 :: a2 :: a3 :: ⟨R, c, t⟩ :: L2) x) (ho : On A s x) (vs : List Value) (hc : c.size = vs.length) : Fr A w0 (a0 :: a1 :: a2 :: a3 :: ⟨R, vs.toArray, t⟩ :: L2) (stR x R vs 0) := by
  have := h.stores4 ho vs 0; rwa [setR_full c vs hc] at this
theorem Fb.full5 {a0 a1 a2 a3 a4 : Blk} {R : Nat} {c : Array Value} {t : TypeId} {L2 : List Blk} (h : Fb w0 (a0 :: a1 :: a2 :: a3 :: a4 :: ⟨R, c, t⟩ :: L2) x) (vs : List Value) (hc : c.size = vs.length) : Fb w0 (a0 :: a1 :: a2 :: a3 :: a4 :: ⟨R, vs.toArray, t⟩ :: L2) (stR x R vs 0) := by
  have := h.stores5 vs 0; rwa [setR_full c vs hc] at this
theorem Fr.full5 {A : Nat} {s : ASt} {a0 a1 a2 a3 a4 : Blk} {R : Nat} {c : Array Value} {t : TypeId} {L2 : List Blk} (h : Fr A w0 (a0 :: a1 :: a2 :: a3 :: a4 :: ⟨R, c, t⟩ :: L2) x) (ho : On A s x) (vs : List Value) (hc : c.size = vs.length) : Fr A w0 (a0 :: a1 :: a2 :: a3 :: a4 :: ⟨R, vs.toArray, t⟩ :: L2) (stR x R vs 0) := by
  have := h.stores5 ho vs 0; rwa [setR_full c vs hc] at this
end
end Go.Proofs.Ytcbbhefgdonabaa.Bt
