/- What a table tells of a run that was laid. -/
import Derived.Test.YtglfllnemenhnaaTgE
namespace Go.Proofs.Ytglfllnemenhnaa.Bt
open Go Go.RowKit Go.Shelf
set_option linter.unusedVariables false

theorem tag_code (s o : Int) (hs : begB s = true ∨ (s = 0 ∧ o = 0)) (h0 : 0 ≤ o) (h1 : o ≤ 10) : tagS (codeI s o) = s ∧ tagO (codeI s o) = o := by
  unfold codeI
  rcases hs with hs | ⟨rfl, rfl⟩
  · have h3 : s = 2 ∨ s = 3 := by unfold begB at hs; simpa using hs
    have e1 : (4 * o + s) / 4 = o := by omega
    have e2 : (4 * o + s) % 4 = s := by omega
    have hb : tagB (4 * o + s) = true := by unfold tagB; rw [e1, e2, hs]; simp; omega
    unfold tagS tagO
    rw [if_pos hb, if_pos hb, e1, e2]; exact ⟨rfl, rfl⟩
  · decide
theorem tag_one : tagS 1 = 1 ∧ tagO 1 = 0 := by decide
theorem tag_nought : tagS 0 = 0 ∧ tagO 0 = 0 := by decide
theorem addrV_in {va vs : Nat} {j : Int} (h0 : 0 ≤ j) (h1 : j < vs) : addrV va vs j 1 = (va : Int) + j := by unfold addrV; rw [if_pos (by omega)]
theorem gE_full (m : Nat → UInt8) (va vs : Nat) (h : va + vs ≤ 4096) (j : Int) : gE (fullS 1 m) va vs j = if 0 ≤ j ∧ j < vs then 0 else 3 := by
  unfold gE numE
  rw [show wholeB 1 = true from rfl, if_pos rfl]
  show thereE 1 [0, 1] _ _ = _
  rw [thereE_full (by omega) (by omega)]
  unfold addrV
  by_cases hj : 0 ≤ j ∧ j < vs
  · rw [if_pos (show 0 ≤ j ∧ (0 : Int) ≤ 1 ∧ 1 ≤ (vs : Int) - j by omega), if_pos hj, if_pos (by omega)]
  · rw [if_neg (show ¬ (0 ≤ j ∧ (0 : Int) ≤ 1 ∧ 1 ≤ (vs : Int) - j) by omega), if_neg hj, if_neg (by omega)]
theorem gC_full (m : Nat → UInt8) (va vs : Nat) (h : va + vs ≤ 4096) (j : Nat) (hj : j < vs) : gC (fullS 1 m) va vs j = (m (va + j)).toNat := by
  have he := gE_full m va vs h j
  rw [if_pos (by omega)] at he
  unfold gE at he
  unfold gC ldV
  rw [if_pos he, addrV_in (by omega) (by omega)]
  show ((numV m ((va : Int) + j).toNat 1 : Nat) : Int) = _
  rw [show ((va : Int) + j).toNat = va + j by omega]
  show ((numV m (va + j) 0 + (m (va + j + 0)).toNat * 2 ^ (8 * 0) : Nat) : Int) = _
  simp [numV]
theorem layM_first (m : Nat → UInt8) (an N : Nat) (fs fo : Int) (os : UInt8) (h : 0 ≤ codeI fs fo ∧ codeI fs fo ≤ 255) : ((layM m an N fs fo os an).toNat : Int) = codeI fs fo := by
  unfold layM
  have := putM_in (putM m an (List.replicate N os)) an (numB (codeI fs fo) 1) (i := 0) (by rw [numB_length]; omega)
  rw [Nat.add_zero] at this
  rw [this]
  have e : (numB (codeI fs fo) 1).getD 0 0 = byteN (codeI fs fo) 0 := rfl
  rw [e, ← byte_val h.1 0]
  have := IntKind.wrap_u8 (codeI fs fo / 2 ^ (8 * 0))
  rw [this]
  have e2 : codeI fs fo / 2 ^ (8 * 0) = codeI fs fo := by simp
  rw [e2]; omega
theorem layM_other (m : Nat → UInt8) (an N : Nat) (fs fo : Int) (os : UInt8) (k : Nat) (h1 : 0 < k) (h2 : k < N) : layM m an N fs fo os (an + k) = os := by
  unfold layM
  rw [putM_out _ _ _ (.inr (by rw [numB_length]; omega)), putM_in _ _ _ (by simpa using h2)]
  rw [List.getD_eq_getElem?_getD, List.getElem?_replicate, if_pos h2]; rfl
theorem layM_out (m : Nat → UInt8) (an N : Nat) (hN : 0 < N) (fs fo : Int) (os : UInt8) (i : Nat) (h : i < an ∨ an + N ≤ i) : layM m an N fs fo os i = m i := by
  unfold layM
  rw [putM_out _ _ _ (by rw [numB_length]; omega), putM_out _ _ _ (by rw [List.length_replicate]; omega)]
/-- where Lay lays in an arena of one page -/
theorem lay_at (m : Nat → UInt8) (va vs : Nat) (h : va + vs ≤ 4096) (i : Int) (on : Nat) :
    layE (fullS 1 m) va vs i on = if 0 ≤ i ∧ i + (2 ^ on : Nat) ≤ vs then 0 else 3 := by
  unfold layE layA
  show thereE 1 [0, 1] _ _ = _
  rw [thereE_full (by omega) (by omega)]
  unfold addrV
  have hp := Nat.two_pow_pos on
  by_cases hj : 0 ≤ i ∧ i + (2 ^ on : Nat) ≤ vs
  · rw [if_pos (show 0 ≤ i ∧ (0 : Int) ≤ (2 ^ on : Nat) ∧ ((2 ^ on : Nat) : Int) ≤ (vs : Int) - i by omega), if_pos hj, if_pos (by omega)]
  · rw [if_neg (show ¬ (0 ≤ i ∧ (0 : Int) ≤ (2 ^ on : Nat) ∧ ((2 ^ on : Nat) : Int) ≤ (vs : Int) - i) by omega), if_neg hj, if_neg (by omega)]
theorem lay_addr (va vs : Nat) (i on : Nat) (h : i + 2 ^ on ≤ vs) : layA va vs i on = ((va + i : Nat) : Int) := by
  unfold layA addrV
  generalize 2 ^ on = N at *
  rw [if_pos (by omega)]; omega
/-- of a run that was laid as Free or Taken -/
theorem run_laid (m : Nat → UInt8) (va vs : Nat) (h : va + vs ≤ 4096) (i on : Nat) (hi : i + 2 ^ on ≤ vs) (st : Int) (hs : begB st = true) (ho : on ≤ 10) (k : Nat) (hk : k < 2 ^ on) :
    runV (gC (fullS 1 (layM m (va + i) (2 ^ on) st on 1)) va vs) ((i : Int) + k) = .tuple #[.int .i64 (i : Int), tagV st on, .int .i64 0] := by
  have h3 : st = 2 ∨ st = 3 := by unfold begB at hs; simpa using hs
  have hcb : 0 ≤ codeI st on ∧ codeI st on ≤ 255 := by unfold codeI; omega
  obtain ⟨t1, t2⟩ := tag_code st on (.inl hs) (by omega) (by omega)
  have c0 : gC (fullS 1 (layM m (va + i) (2 ^ on) st on 1)) va vs i = codeI st on := by
    rw [gC_full _ _ _ h i (by omega), layM_first _ _ _ _ _ _ hcb]
  have ck : ∀ j : Nat, 0 < j → j < 2 ^ on → gC (fullS 1 (layM m (va + i) (2 ^ on) st on 1)) va vs ((i + j : Nat) : Int) = 1 := fun j j1 j2 => by
    rw [gC_full _ _ _ h (i + j) (by omega), ← Nat.add_assoc, layM_other _ _ _ _ _ _ _ j1 j2]; rfl
  generalize gC (fullS 1 (layM m (va + i) (2 ^ on) st on 1)) va vs = c at *
  have hd : ∀ j : Nat, j < 2 ^ on → dnN (insI c) (i + j + 1) = i := by
    intro j
    induction j with
    | zero =>
      intro _
      show (if insI c ((i + 0 : Nat) : Int) then dnN (insI c) (i + 0) else ((i + 0 : Nat) : Int)) = _
      rw [Nat.add_zero, if_neg]
      unfold insI; rw [c0, t1]; simp; omega
    | succ j ih =>
      intro hj
      show (if insI c ((i + (j + 1) : Nat) : Int) then dnN (insI c) (i + (j + 1)) else _) = _
      rw [if_pos]
      · exact ih (by omega)
      · unfold insI; rw [ck (j + 1) (by omega) hj]; decide
  have hf : runF c ((i : Int) + k) = i := by
    unfold runF
    rw [show ((i : Int) + k).toNat + 1 = i + k + 1 by omega]
    exact hd k hk
  have hok : runOk c ((i : Int) + k) = true := by
    unfold runOk; rw [hf, c0, t1, t2, hs, Bool.true_and, decide_eq_true_iff, Int.toNat_natCast]; omega
  unfold runV
  rw [if_pos hok, hf, c0, t1, t2]
/-- of a run that was laid as None -/
theorem run_none (m : Nat → UInt8) (va vs : Nat) (h : va + vs ≤ 4096) (i on : Nat) (hi : i + 2 ^ on ≤ vs) (k : Nat) (hk : k < 2 ^ on) :
    runV (gC (fullS 1 (layM m (va + i) (2 ^ on) 0 0 0)) va vs) ((i : Int) + k) = .tuple #[.int .i64 0, tagV 0 0, .int .i64 8] := by
  have ck : gC (fullS 1 (layM m (va + i) (2 ^ on) 0 0 0)) va vs ((i + k : Nat) : Int) = 0 := by
    rw [gC_full _ _ _ h (i + k) (by omega), ← Nat.add_assoc]
    cases k with
    | zero => rw [Nat.add_zero, layM_first _ _ _ _ _ _ (by decide)]; rfl
    | succ k => rw [layM_other _ _ _ _ _ _ _ (by omega) hk]; rfl
  generalize gC (fullS 1 (layM m (va + i) (2 ^ on) 0 0 0)) va vs = c at *
  have hf : runF c ((i : Int) + k) = ((i + k : Nat) : Int) := by
    unfold runF
    rw [show ((i : Int) + k).toNat + 1 = i + k + 1 by omega]
    show (if insI c ((i + k : Nat) : Int) then dnN (insI c) (i + k) else ((i + k : Nat) : Int)) = _
    rw [if_neg]
    unfold insI; rw [ck]; decide
  have hok : runOk c ((i : Int) + k) = false := by
    unfold runOk; rw [hf, ck, show begB (tagS 0) = false by decide, Bool.false_and]
  unfold runV
  rw [hok]; rfl
end Go.Proofs.Ytglfllnemenhnaa.Bt
