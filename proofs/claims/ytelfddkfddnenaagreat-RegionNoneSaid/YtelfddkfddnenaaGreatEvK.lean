/- Numbers, texts, comparisons. -/
import Derived.Test.YtelfddkfddnenaaGreatEvJ
namespace Ev
open Go Go.RowKit
set_option linter.unusedVariables false
set_option linter.unusedSimpArgs false
theorem ble_false {m n : Nat} : Nat.ble m n = false ↔ n < m := by
  constructor
  · intro h; rcases Nat.lt_or_ge n m with h1 | h1
    · exact h1
    · rw [Nat.ble_eq_true_of_le h1] at h; cases h
  · intro h; cases hb : Nat.ble m n with
    | false => rfl
    | true => have := Nat.le_of_ble_eq_true hb; omega
def vOf (k : Nat) (n : Int) : V := match n with | .ofNat m => .i k m | .negSucc m => .j k m
theorem vOf_den (ρ : Rho) (k : Nat) (n : Int) : den ρ (vOf k n) = some (.int (kd k) n) := by cases n <;> simp [vOf, den]
theorem wr_eq {k : Nat} {n : Int} {q : V → R} : wr k n q = q (vOf k ((kd k).wrap n)) := by unfold wr; rw [vI_eq]; rfl
theorem wrap_in (k : IntKind) {m : Nat} (h : m ≤ hiN k) : k.wrap (m : Int) = (m : Int) := by
  have h1 : (m : Int) % (2 ^ k.bits : Int) = m := by
    apply Int.emod_eq_of_lt (Int.natCast_nonneg _)
    cases k <;> simp only [hiN, IntKind.bits] at * <;> omega
  unfold IntKind.wrap
  simp only [h1]
  rw [if_neg]
  intro hc
  cases k <;> simp [hiN, IntKind.signed, IntKind.bits] at * <;> omega
theorem wrN_eq {k : IntKind} {m : Nat} {q : V → R} : wrN (kN k) (hiN k) m q = q (vOf (kN k) (k.wrap (m : Int))) := by
  unfold wrN
  rw [fN_eq]
  cases hb : Nat.ble m (hiN k) with
  | true => rw [ifT_true rfl, wrap_in k (Nat.le_of_ble_eq_true hb)]; rfl
  | false => rw [ifT_false rfl, wr_eq, kd_kN]; rfl
theorem ieq_eq (a b : Int) : ieq a b = (a == b) := by
  cases a <;> cases b <;> rename_i m n <;> simp only [ieq]
  · rw [Bool.eq_iff_iff]; simp; omega
  · rfl
  · rfl
  · rw [Bool.eq_iff_iff]; simp
theorem ilt_eq (a b : Int) : ilt a b = decide (a < b) := by
  cases a <;> cases b <;> rename_i m n <;> simp only [ilt]
  · rw [Bool.eq_iff_iff]; simp [Nat.succ_le_iff]
  · rw [Bool.eq_iff_iff]; simp; omega
  · rw [Bool.eq_iff_iff]; simp; omega
  · rw [Bool.eq_iff_iff]; simp [Nat.succ_le_iff]; omega
theorem bol_eq {b : Bool} {q : V → R} : bol b q = q (.b b) := by cases b <;> rfl
theorem nbl_eq {b : Bool} {q : V → R} : nbl b q = q (.b !b) := by cases b <;> rfl
theorem asX_eq {v : V} {q : Nat → Nat → R} {z : R} : asX v q z = match v with | .i k m => q k m | _ => z := by cases v <;> rfl
theorem int_den {ρ : Rho} {v : V} {k : Nat} {n : Int} (h : int v = some (k, n)) : den ρ v = some (.int (kd k) n) := by
  cases v <;> simp only [int, Option.some.injEq, Prod.mk.injEq] at h <;> first | (obtain ⟨rfl, rfl⟩ := h; simp [den]) | cases h
theorem b2_fin {k0 : Nat} {f : Nat → Nat → (V → R) → R} {s : Int → Int → (V → R) → R} {x y : V} {q : V → R} {w : V} {h : HP} {c : Nat} (H : b2 k0 f s x y q = .fin w h c) :
    (∃ m n, x = .i k0 m ∧ y = .i k0 n ∧ f m n q = .fin w h c) ∨ ∃ a b, int x = some (k0, a) ∧ int y = some (k0, b) ∧ s a b q = .fin w h c := by
  have slow : b2S k0 s x y q = .fin w h c → ∃ a b, int x = some (k0, a) ∧ int y = some (k0, b) ∧ s a b q = .fin w h c := by
    intro H
    obtain ⟨k, a, e1, e2⟩ := asI_fin H
    obtain ⟨k', b, e3, e4⟩ := asI_fin e2
    obtain ⟨e5, e6⟩ := ifT_fin e4
    obtain ⟨e7, e8⟩ := ifT_fin e6
    exact ⟨a, b, by rw [e1, Nat.eq_of_beq_eq_true e5], by rw [e3, Nat.eq_of_beq_eq_true e7], e8⟩
  unfold b2 at H
  rw [asX_eq] at H
  split at H
  · rename_i k m
    unfold b2F at H
    rw [asX_eq] at H
    split at H
    · rename_i k' n
      obtain ⟨e5, e6⟩ := ifT_fin H
      obtain ⟨e7, e8⟩ := ifT_fin e6
      exact .inl ⟨m, n, by rw [Nat.eq_of_beq_eq_true e5], by rw [Nat.eq_of_beq_eq_true e7], e8⟩
    · exact .inr (slow H)
  · exact .inr (slow H)
/-- what an operation on two values comes to -/
def BFok (P : Program) (f : BF) (op : BinOp) (T : TypeId) : Prop := ∀ x y q v' h' c', f x y q = .fin v' h' c' → ∃ v, q v = .fin v' h' c' ∧ ∀ ρ X Y, den ρ x = some X → den ρ y = some Y →
  ∃ r, den ρ v = some r ∧ ∀ w (s t : Operand), (do eqGuard op T s t X Y; binOp op T X Y : Sem Value).run P w = .ok r w
theorem bf_int {P : Program} {k : IntKind} {op : BinOp} {T : TypeId} {f : Nat → Nat → (V → R) → R} {s : Int → Int → (V → R) → R}
    (hf : ∀ m n q v' h' c', f m n q = .fin v' h' c' → ∃ v, q v = .fin v' h' c' ∧ ∀ ρ : Rho, ∃ r, den ρ v = some r ∧ ∀ w, (binOp op T (.int k m) (.int k n)).run P w = .ok r w)
    (hs : ∀ a b q v' h' c', s a b q = .fin v' h' c' → ∃ v, q v = .fin v' h' c' ∧ ∀ ρ : Rho, ∃ r, den ρ v = some r ∧ ∀ w, (binOp op T (.int k a) (.int k b)).run P w = .ok r w) : BFok P (b2 (kN k) f s) op T := by
  intro x y q v' h' c' H
  have guard : ∀ (a b : Int) w (s t : Operand), (eqGuard op T s t (.int k a) (.int k b)).run P w = .ok () w := by
    intro a b w s t
    unfold eqGuard
    cases op <;> rfl
  rcases b2_fin H with ⟨m, n, rfl, rfl, e⟩ | ⟨a, b, e1, e2, e⟩
  · obtain ⟨v, g1, g2⟩ := hf m n q v' h' c' e
    refine ⟨v, g1, fun ρ X Y hX hY => ?_⟩
    obtain ⟨r, g3, g4⟩ := g2 ρ
    have d1 := nat_den rfl hX
    have d2 := nat_den rfl hY
    rw [kd_kN] at d1 d2
    exact ⟨r, g3, fun w s t => by rw [d1, d2, Sem.run_bind, guard]; exact g4 w⟩
  · obtain ⟨v, g1, g2⟩ := hs a b q v' h' c' e
    refine ⟨v, g1, fun ρ X Y hX hY => ?_⟩
    obtain ⟨r, g3, g4⟩ := g2 ρ
    have d1 := int_den (ρ := ρ) e1
    have d2 := int_den (ρ := ρ) e2
    rw [kd_kN] at d1 d2
    rw [hX] at d1; rw [hY] at d2
    cases d1; cases d2
    exact ⟨r, g3, fun w s t => by rw [Sem.run_bind, guard]; exact g4 w⟩
section
variable {P : Program} {T : TypeId} (k : IntKind)
theorem vOf_den' (ρ : Rho) (n : Int) : den ρ (vOf (kN k) n) = some (.int k n) := by rw [vOf_den, kd_kN]
theorem ok_add : BFok P (aAdd (kN k) (hiN k)) .add T := by
  refine bf_int (fun m n q v' h' c' e => ?_) (fun a b q v' h' c' e => ?_)
  · rw [wrN_eq] at e
    exact ⟨_, e, fun ρ => ⟨_, vOf_den' k ρ _, fun w => by simp [binOp, Op.intArith]⟩⟩
  · rw [wr_eq, kd_kN] at e
    exact ⟨_, e, fun ρ => ⟨_, vOf_den' k ρ _, fun w => by simp [binOp, Op.intArith]⟩⟩
theorem ok_sub : BFok P (aSub (kN k) (hiN k)) .sub T := by
  have run : ∀ (a b : Int) w, (binOp .sub T (.int k a) (.int k b)).run P w = .ok (.int k (k.wrap (a - b))) w := fun a b w => by simp [binOp, Op.intArith]
  refine bf_int (fun m n q v' h' c' e => ?_) (fun a b q v' h' c' e => ?_)
  · cases hb : Nat.ble n m with
    | true =>
      rw [hb, ifT_true rfl, wrN_eq] at e
      have := Nat.le_of_ble_eq_true hb
      have e2 : ((Nat.sub m n : Nat) : Int) = (m : Int) - n := by show ((m - n : Nat) : Int) = _; omega
      rw [e2] at e
      exact ⟨_, e, fun ρ => ⟨_, vOf_den' k ρ _, run _ _⟩⟩
    | false =>
      rw [hb, ifT_false rfl, wr_eq, kd_kN] at e
      exact ⟨_, e, fun ρ => ⟨_, vOf_den' k ρ _, run _ _⟩⟩
  · rw [wr_eq, kd_kN] at e
    exact ⟨_, e, fun ρ => ⟨_, vOf_den' k ρ _, run _ _⟩⟩
theorem ok_mul : BFok P (aMul (kN k) (hiN k)) .mul T := by
  refine bf_int (fun m n q v' h' c' e => ?_) (fun a b q v' h' c' e => ?_)
  · rw [wrN_eq] at e
    exact ⟨_, e, fun ρ => ⟨_, vOf_den' k ρ _, fun w => by simp [binOp, Op.intArith]⟩⟩
  · rw [wr_eq, kd_kN] at e
    exact ⟨_, e, fun ρ => ⟨_, vOf_den' k ρ _, fun w => by simp [binOp, Op.intArith]⟩⟩
theorem ifF_fin {b : Bool} {x : R} {n : Nat} {w : V} {h : HP} {c : Nat} (H : ifT b (.bad n) x = .fin w h c) : b = false ∧ x = .fin w h c := by
  cases b
  · exact ⟨rfl, H⟩
  · cases H
theorem ok_quo : BFok P (aQuo (kN k) (hiN k)) .quo T := by
  refine bf_int (fun m n q v' h' c' e => ?_) (fun a b q v' h' c' e => ?_)
  · obtain ⟨e1, e2⟩ := ifF_fin e
    rw [wrN_eq] at e2
    have hn : ¬ n = 0 := Nat.ne_of_beq_eq_false e1
    refine ⟨_, e2, fun ρ => ⟨_, vOf_den' k ρ _, fun w => ?_⟩⟩
    have : ((m : Int).tdiv n) = ((Nat.div m n : Nat) : Int) := rfl
    simp [binOp, Op.intDiv, hn, this]
  · obtain ⟨e1, e2⟩ := ifF_fin e
    rw [wr_eq, kd_kN] at e2
    have hn : ¬ b = 0 := by rw [ieq_eq] at e1; simpa using e1
    exact ⟨_, e2, fun ρ => ⟨_, vOf_den' k ρ _, fun w => by simp [binOp, Op.intDiv, hn]⟩⟩
theorem ok_rem : BFok P (aRem (kN k)) .rem T := by
  refine bf_int (fun m n q v' h' c' e => ?_) (fun a b q v' h' c' e => ?_)
  · obtain ⟨e1, e2⟩ := ifF_fin e
    rw [fN_eq] at e2
    have hn : ¬ n = 0 := Nat.ne_of_beq_eq_false e1
    refine ⟨_, e2, fun ρ => ⟨_, vOf_den' k ρ (.ofNat (Nat.mod m n)), fun w => ?_⟩⟩
    have : ((m : Int).tmod n) = ((Nat.mod m n : Nat) : Int) := rfl
    simp [binOp, Op.intDiv, hn, this]
  · obtain ⟨e1, e2⟩ := ifF_fin e
    rw [vI_eq] at e2
    have hn : ¬ b = 0 := by rw [ieq_eq] at e1; simpa using e1
    exact ⟨_, e2, fun ρ => ⟨_, vOf_den' k ρ (a.tmod b), fun w => by simp [binOp, Op.intDiv, hn]⟩⟩
theorem bi_pow : biN k = 2 ^ k.bits := by cases k <;> rfl
theorem ok_and : BFok P (aBit Nat.land (kN k) (hiN k) (biN k)) .and T := by
  refine bf_int (fun m n q v' h' c' e => ?_) (fun a b q v' h' c' e => ?_)
  · rw [wrN_eq] at e
    refine ⟨_, e, fun ρ => ⟨_, vOf_den' k ρ _, fun w => ?_⟩⟩
    rw [bi_pow]
    simp [binOp, Op.intBits, BitVec.ofInt_natCast]
    rfl
  · cases e
theorem ok_or : BFok P (aBit Nat.lor (kN k) (hiN k) (biN k)) .or T := by
  refine bf_int (fun m n q v' h' c' e => ?_) (fun a b q v' h' c' e => ?_)
  · rw [wrN_eq] at e
    refine ⟨_, e, fun ρ => ⟨_, vOf_den' k ρ _, fun w => ?_⟩⟩
    rw [bi_pow]
    simp [binOp, Op.intBits, BitVec.ofInt_natCast]
    rfl
  · cases e
theorem ok_xor : BFok P (aBit Nat.xor (kN k) (hiN k) (biN k)) .xor T := by
  refine bf_int (fun m n q v' h' c' e => ?_) (fun a b q v' h' c' e => ?_)
  · rw [wrN_eq] at e
    refine ⟨_, e, fun ρ => ⟨_, vOf_den' k ρ _, fun w => ?_⟩⟩
    rw [bi_pow]
    simp [binOp, Op.intBits, BitVec.ofInt_natCast]
    rfl
  · cases e
theorem ok_andNot : BFok P (aBit (anN (biN k)) (kN k) (hiN k) (biN k)) .andNot T := by
  refine bf_int (fun m n q v' h' c' e => ?_) (fun a b q v' h' c' e => ?_)
  · rw [wrN_eq] at e
    refine ⟨_, e, fun ρ => ⟨_, vOf_den' k ρ _, fun w => ?_⟩⟩
    have hb : ((Nat.land (Nat.mod m (biN k)) (Nat.sub (Nat.sub (biN k) 1) (Nat.mod n (biN k))) : Nat) : Int) = (((BitVec.ofInt k.bits (m : Int)) &&& ~~~(BitVec.ofInt k.bits (n : Int))).toNat : Int) := by
      rw [BitVec.toNat_and, BitVec.toNat_not, BitVec.ofInt_natCast, BitVec.ofInt_natCast, BitVec.toNat_ofNat, BitVec.toNat_ofNat, bi_pow]
      rfl
    have hb' : ((anN (biN k) (Nat.mod m (biN k)) (Nat.mod n (biN k)) : Nat) : Int) = (((BitVec.ofInt k.bits (m : Int)) &&& ~~~(BitVec.ofInt k.bits (n : Int))).toNat : Int) := hb
    rw [hb']
    simp only [binOp, Op.intBits]
    simp
  · cases e
theorem run_cmp (op : BinOp) (a b : Int) (w : World) (r : Bool) (h : (op = .eql ∧ r = (a == b)) ∨ (op = .neq ∧ r = (a != b)) ∨ (op = .lss ∧ r = decide (a < b)) ∨ (op = .leq ∧ r = decide (a ≤ b)) ∨ (op = .gtr ∧ r = decide (a > b)) ∨ (op = .geq ∧ r = decide (a ≥ b))) :
    (binOp op T (.int k a) (.int k b)).run P w = .ok (.bool r) w := by
  rcases h with ⟨rfl, rfl⟩ | ⟨rfl, rfl⟩ | ⟨rfl, rfl⟩ | ⟨rfl, rfl⟩ | ⟨rfl, rfl⟩ | ⟨rfl, rfl⟩ <;> simp [binOp, Op.intCmp]
theorem ok_eq : BFok P (aEq (kN k)) .eql T := by
  refine bf_int (fun m n q v' h' c' e => ?_) (fun a b q v' h' c' e => ?_) <;> rw [bol_eq] at e <;> refine ⟨_, e, fun ρ => ⟨_, rfl, fun w => run_cmp k _ _ _ w _ (.inl ⟨rfl, ?_⟩)⟩⟩
  · rw [Bool.eq_iff_iff]; simp; omega
  · exact ieq_eq a b
theorem ok_ne : BFok P (aNe (kN k)) .neq T := by
  refine bf_int (fun m n q v' h' c' e => ?_) (fun a b q v' h' c' e => ?_) <;> rw [nbl_eq] at e <;> refine ⟨_, e, fun ρ => ⟨_, rfl, fun w => run_cmp k _ _ _ w _ (.inr (.inl ⟨rfl, ?_⟩))⟩⟩
  · have : Nat.beq m n = ((m : Int) == n) := by rw [Bool.eq_iff_iff]; simp; omega
    rw [this]; rfl
  · rw [ieq_eq]; rfl
theorem ok_lt : BFok P (aLt (kN k)) .lss T := by
  refine bf_int (fun m n q v' h' c' e => ?_) (fun a b q v' h' c' e => ?_)
  · rw [nbl_eq] at e
    refine ⟨_, e, fun ρ => ⟨_, rfl, fun w => run_cmp k _ _ _ w _ (.inr (.inr (.inl ⟨rfl, ?_⟩)))⟩⟩
    rw [Bool.eq_iff_iff]; simp [ble_false]
  · rw [bol_eq] at e
    exact ⟨_, e, fun ρ => ⟨_, rfl, fun w => run_cmp k _ _ _ w _ (.inr (.inr (.inl ⟨rfl, ilt_eq a b⟩)))⟩⟩
theorem ok_le : BFok P (aLe (kN k)) .leq T := by
  refine bf_int (fun m n q v' h' c' e => ?_) (fun a b q v' h' c' e => ?_)
  · rw [bol_eq] at e
    refine ⟨_, e, fun ρ => ⟨_, rfl, fun w => run_cmp k _ _ _ w _ (.inr (.inr (.inr (.inl ⟨rfl, ?_⟩))))⟩⟩
    rw [Bool.eq_iff_iff]; simp
  · rw [nbl_eq, ilt_eq] at e
    refine ⟨_, e, fun ρ => ⟨_, rfl, fun w => run_cmp k _ _ _ w _ (.inr (.inr (.inr (.inl ⟨rfl, ?_⟩))))⟩⟩
    rw [Bool.eq_iff_iff]; simp
theorem ok_gt : BFok P (aGt (kN k)) .gtr T := by
  refine bf_int (fun m n q v' h' c' e => ?_) (fun a b q v' h' c' e => ?_)
  · rw [nbl_eq] at e
    refine ⟨_, e, fun ρ => ⟨_, rfl, fun w => run_cmp k _ _ _ w _ (.inr (.inr (.inr (.inr (.inl ⟨rfl, ?_⟩)))))⟩⟩
    rw [Bool.eq_iff_iff]; simp [ble_false]
  · rw [bol_eq, ilt_eq] at e
    exact ⟨_, e, fun ρ => ⟨_, rfl, fun w => run_cmp k _ _ _ w _ (.inr (.inr (.inr (.inr (.inl ⟨rfl, rfl⟩)))))⟩⟩
theorem ok_ge : BFok P (aGe (kN k)) .geq T := by
  refine bf_int (fun m n q v' h' c' e => ?_) (fun a b q v' h' c' e => ?_)
  · rw [bol_eq] at e
    refine ⟨_, e, fun ρ => ⟨_, rfl, fun w => run_cmp k _ _ _ w _ (.inr (.inr (.inr (.inr (.inr ⟨rfl, ?_⟩)))))⟩⟩
    rw [Bool.eq_iff_iff]; simp
  · rw [nbl_eq, ilt_eq] at e
    refine ⟨_, e, fun ρ => ⟨_, rfl, fun w => run_cmp k _ _ _ w _ (.inr (.inr (.inr (.inr (.inr ⟨rfl, ?_⟩)))))⟩⟩
    rw [Bool.eq_iff_iff]; simp
theorem sh_bits : sh k = k.bits := by cases k <;> rfl
theorem noGuard {op : BinOp} (h : op = .shl ∨ op = .shr ∨ op = .add) (X Y : Value) (s t : Operand) (w : World) : (eqGuard op T s t X Y).run P w = .ok () w := by
  rcases h with rfl | rfl | rfl <;> rfl
theorem ok_shl : BFok P (aShl (kN k) (hiN k) (sh k)) .shl T := by
  intro x y q v' h' c' H
  obtain ⟨k', m, e1, e2⟩ := asN_fin H
  obtain ⟨k2, n, e3, e4⟩ := asN_fin e2
  obtain ⟨e5, e6⟩ := ifT_fin e4
  obtain ⟨e7, e8⟩ := ifT_fin e6
  rw [wrN_eq] at e8
  have hk : k' = kN k := Nat.eq_of_beq_eq_true e5
  have hn := Nat.le_of_ble_eq_true e7
  rw [sh_bits] at hn
  refine ⟨_, e8, fun ρ X Y hX hY => ⟨_, vOf_den' k ρ _, fun w s t => ?_⟩⟩
  have d1 := nat_den e1 hX
  have d2 := nat_den e3 hY
  rw [hk, kd_kN] at d1
  rw [d1, d2, Sem.run_bind, noGuard (.inl rfl)]
  have : ((Nat.shiftLeft m n : Nat) : Int) = (m : Int) * 2 ^ n := by show ((m <<< n : Nat) : Int) = _; rw [Nat.shiftLeft_eq]; simp
  rw [this]
  simp [binOp, Op.shift, Nat.min_eq_left hn, show ¬ (n : Int) < 0 by omega]
theorem ok_shr : BFok P (aShr (kN k) (sh k)) .shr T := by
  intro x y q v' h' c' H
  obtain ⟨k', m, e1, e2⟩ := asN_fin H
  obtain ⟨k2, n, e3, e4⟩ := asN_fin e2
  obtain ⟨e5, e6⟩ := ifT_fin e4
  obtain ⟨e7, e8⟩ := ifT_fin e6
  rw [fN_eq] at e8
  have hk : k' = kN k := Nat.eq_of_beq_eq_true e5
  have hn := Nat.le_of_ble_eq_true e7
  rw [sh_bits] at hn
  refine ⟨_, e8, fun ρ X Y hX hY => ⟨.int k ((Nat.shiftRight m n : Nat) : Int), by simp [den, kd_kN], fun w s t => ?_⟩⟩
  have d1 := nat_den e1 hX
  have d2 := nat_den e3 hY
  rw [hk, kd_kN] at d1
  rw [d1, d2, Sem.run_bind, noGuard (.inr (.inl rfl))]
  have : ((Nat.shiftRight m n : Nat) : Int) = (m : Int).fdiv (2 ^ n) := by
    show ((m >>> n : Nat) : Int) = _
    rw [Nat.shiftRight_eq_div_pow, Int.fdiv_eq_ediv_of_nonneg _ (by exact Int.le_of_lt (Int.pow_pos (by decide)))]
    simp
  rw [this]
  simp [binOp, Op.shift, Nat.min_eq_left hn, show ¬ (n : Int) < 0 by omega]
end
theorem cAr_ok {P : Program} {T : TypeId} {k : IntKind} {op : BinOp} {f : BF} (h : cAr op k = .mk f) : BFok P f op T := by
  cases op <;> simp only [cAr] at h <;> first | cases h | skip
  · exact ok_add k
  · exact ok_sub k
  · exact ok_mul k
  · exact ok_quo k
  · exact ok_rem k
  · exact ok_and k
  · exact ok_or k
  · exact ok_xor k
  · exact ok_shl k
  · exact ok_shr k
  · exact ok_andNot k
  · exact ok_eq k
  · exact ok_ne k
  · exact ok_lt k
  · exact ok_le k
  · exact ok_gt k
  · exact ok_ge k
end Ev
