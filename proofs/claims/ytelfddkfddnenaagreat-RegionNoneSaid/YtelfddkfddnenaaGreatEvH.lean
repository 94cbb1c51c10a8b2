/- The tables; operands; where results go. -/
import Derived.Test.YtelfddkfddnenaaGreatEvG
namespace Ev
open Go Go.RowKit
set_option linter.unusedVariables false
set_option linter.unusedSimpArgs false
section
variable {α : Type} {d x : α}
theorem get_n (l : T α) (v : α) (r : T α) (i : Nat) : T.get d (.n l v r) i = match i with | 0 => v | i + 1 => if i % 2 = 0 then T.get d l (i / 2) else T.get d r (i / 2) := by
  cases i with
  | zero => rfl
  | succ i =>
    show Bool.rec (motive := fun _ => α) (T.get d r (i / 2)) (T.get d l (i / 2)) (Nat.beq (i % 2) 0) = _
    by_cases h : i % 2 = 0
    · simp only; rw [if_pos h]; rw [show Nat.beq (i % 2) 0 = true by rw [h]; rfl]
    · simp only; rw [if_neg h]; rw [show Nat.beq (i % 2) 0 = false by rw [show i % 2 = 1 by omega]; rfl]
theorem oneK_succ (f i : Nat) (k : T α → T α) : T.oneK d x (f + 1) i k = match i with | 0 => k (.n .e x .e) | i + 1 => if i % 2 = 0 then T.oneK d x f (i / 2) fun l => k (.n l d .e) else T.oneK d x f (i / 2) fun r => k (.n .e d r) := by
  cases i with
  | zero => rfl
  | succ i =>
    show Bool.rec (motive := fun _ => T α) (T.oneK d x f (i / 2) fun r => k (.n .e d r)) (T.oneK d x f (i / 2) fun l => k (.n l d .e)) (Nat.beq (i % 2) 0) = _
    by_cases h : i % 2 = 0
    · simp only; rw [if_pos h]; rw [show Nat.beq (i % 2) 0 = true by rw [h]; rfl]
    · simp only; rw [if_neg h]; rw [show Nat.beq (i % 2) 0 = false by rw [show i % 2 = 1 by omega]; rfl]
theorem setK_n (l : T α) (v : α) (r : T α) (i : Nat) (k : T α → T α) : T.setK d x (.n l v r) i k = match i with | 0 => k (.n l x r) | i + 1 => if i % 2 = 0 then T.setK d x l (i / 2) fun l => k (.n l v r) else T.setK d x r (i / 2) fun r => k (.n l v r) := by
  cases i with
  | zero => rfl
  | succ i =>
    show Bool.rec (motive := fun _ => T α) (T.setK d x r (i / 2) fun r => k (.n l v r)) (T.setK d x l (i / 2) fun l => k (.n l v r)) (Nat.beq (i % 2) 0) = _
    by_cases h : i % 2 = 0
    · simp only; rw [if_pos h]; rw [show Nat.beq (i % 2) 0 = true by rw [h]; rfl]
    · simp only; rw [if_neg h]; rw [show Nat.beq (i % 2) 0 = false by rw [show i % 2 = 1 by omega]; rfl]
theorem oneK_k : ∀ (f i : Nat) (k : T α → T α), T.oneK d x f i k = k (T.oneK d x f i fun t => t)
  | 0, _, _ => rfl
  | f + 1, i, k => by
    rw [oneK_succ, oneK_succ]
    cases i with
    | zero => rfl
    | succ i =>
      simp only
      split
      · rw [oneK_k f _ (fun l => k (.n l d .e)), oneK_k f _ (fun l => T.n l d .e)]
      · rw [oneK_k f _ (fun r => k (.n .e d r)), oneK_k f _ (fun r => T.n .e d r)]
theorem setK_k : ∀ (t : T α) (i : Nat) (k : T α → T α), T.setK d x t i k = k (T.setK d x t i fun t => t)
  | .e, i, k => oneK_k (i + 1) i k
  | .n l v r, i, k => by
    rw [setK_n, setK_n]
    cases i with
    | zero => rfl
    | succ i =>
      simp only
      split
      · rw [setK_k l _ (fun l => k (.n l v r)), setK_k l _ (fun l => T.n l v r)]
      · rw [setK_k r _ (fun r => k (.n l v r)), setK_k r _ (fun r => T.n l v r)]
theorem get_oneK : ∀ (f i j : Nat), i < f → T.get d (T.oneK d x f i fun t => t) j = if j = i then x else d
  | 0, _, _, h => by omega
  | f + 1, i, j, h => by
    rw [oneK_succ]
    cases i with
    | zero => simp only; rw [get_n]; cases j <;> simp [T.get]
    | succ i =>
      simp only
      split
      · rw [oneK_k, get_n]
        cases j with
        | zero => simp
        | succ j =>
          simp only
          rw [get_oneK f _ _ (by omega)]
          by_cases e : j = i
          · subst e; simp [*]
          · rw [if_neg (by omega : ¬ j + 1 = i + 1)]
            split
            · rw [if_neg (by omega)]
            · rfl
      · rw [oneK_k, get_n]
        cases j with
        | zero => simp
        | succ j =>
          simp only
          rw [get_oneK f _ _ (by omega)]
          by_cases e : j = i
          · subst e; simp [*]
          · rw [if_neg (by omega : ¬ j + 1 = i + 1)]
            split
            · rfl
            · rw [if_neg (by omega)]
theorem get_setK : ∀ (t : T α) (i j : Nat), T.get d (T.setK d x t i fun t => t) j = if j = i then x else T.get d t j
  | .e, i, j => (get_oneK (i + 1) i j (by omega)).trans rfl
  | .n l v r, i, j => by
    rw [setK_n]
    cases i with
    | zero => simp only; rw [get_n, get_n]; cases j <;> simp
    | succ i =>
      simp only
      split
      · rw [setK_k, get_n, get_n]
        cases j with
        | zero => simp
        | succ j =>
          simp only
          rw [get_setK l]
          by_cases e : j = i
          · subst e; simp [*]
          · rw [if_neg (by omega : ¬ j + 1 = i + 1)]
            split
            · rw [if_neg (by omega)]
            · rfl
      · rw [setK_k, get_n, get_n]
        cases j with
        | zero => simp
        | succ j =>
          simp only
          rw [get_setK r]
          by_cases e : j = i
          · subst e; simp [*]
          · rw [if_neg (by omega : ¬ j + 1 = i + 1)]
            split
            · rfl
            · rw [if_neg (by omega)]
theorem get_bld : ∀ (l : List α) (i : Nat) (t : T α) (j : Nat), T.get d (bld d l i t) j = if i ≤ j ∧ j < i + l.length then l.getD (j - i) d else T.get d t j
  | [], i, t, j => by rw [if_neg (by simp)]; rfl
  | v :: l, i, t, j => by
    show T.get d (bld d l (i + 1) (T.setK d v t i fun t => t)) j = _
    rw [get_bld l, get_setK]
    simp only [List.length_cons]
    by_cases e : j = i
    · subst e
      rw [if_neg (by omega), if_pos rfl, if_pos (by omega)]; simp
    · by_cases h : i ≤ j ∧ j < i + (l.length + 1)
      · rw [if_pos (by omega), if_pos h, show j - i = (j - (i + 1)) + 1 by omega]; simp
      · rw [if_neg (by omega), if_neg e, if_neg h]
end
section
variable {P : Program}
theorem tyI_info {t : Nat} {i : TypeInfo} (h : tyI (types P) t = some i) : P.info? t = some i := by
  unfold tyI types at h
  rw [get_bld] at h
  split at h
  · rename_i hlt
    simp only [Nat.zero_add, List.length_map, Array.length_toList] at hlt
    have : t < P.types.size := hlt.2
    simp only [Nat.sub_zero, List.getD, List.getElem?_map, Array.getElem?_toList] at h
    unfold Tables.info?
    rw [if_pos this]
    rw [Array.getElem?_eq_getElem this] at h ⊢
    simpa using h
  · cases h
theorem und_under {t : Nat} {d : TypeDesc} (h : und (types P) t = some d) : P.underlying t = some d ∧ ∃ i, P.info? t = some i ∧ siz (types P) t = i.size ∧ byt (types P) t = i.bytes := by
  unfold und at h
  cases hi : tyI (types P) t with
  | none => rw [hi] at h; cases h
  | some i =>
    rw [hi] at h
    have hI := tyI_info hi
    refine ⟨?_, i, hI, by simp [siz, hi], by simp [byt, hi]⟩
    unfold Program.underlying
    rw [hI]
    obtain ⟨desc, str, size, bytes, hp, al, fa, zero, cmp, ms⟩ := i
    cases desc with
    | named n u =>
      simp only at h ⊢
      cases hu : tyI (types P) u with
      | none => rw [hu] at h; cases h
      | some j => rw [hu] at h; rw [tyI_info hu]; exact h
    | _ => simpa using h
theorem siz_pos {t : Nat} (h : 0 < siz (types P) t) : ∃ i, P.info? t = some i ∧ siz (types P) t = i.size ∧ byt (types P) t = i.bytes := by
  unfold siz byt at *
  cases hi : tyI (types P) t with
  | none => rw [hi] at h; simp at h
  | some i => exact ⟨i, tyI_info hi, by simp, by simp⟩
variable (P) in
theorem run_sizeOf {t : Nat} {i : TypeInfo} (h : P.info? t = some i) (w : World) : (Go.sizeOf t).run P w = .ok i.size w := by simp [Go.sizeOf, typeInfo, h]
variable (P) in
theorem run_isAgg {t : Nat} {d : TypeDesc} (h : und (types P) t = some d) (w : World) : (isAgg t).run P w = .ok (agg (types P) t) w := by
  unfold isAgg agg
  rw [h]
  simp only [Sem.run_bind, run_underlying (und_under h).1, Result.andThen_ok]
  cases d <;> rfl
theorem zOf_zero {t : Nat} {l : List Value} (h : zOf (types P) t = some l) : ∃ i z, P.info? t = some i ∧ i.zero = some z ∧ z.cells.toList = l := by
  unfold zOf at h
  cases hi : tyI (types P) t with
  | none => rw [hi] at h; cases h
  | some i =>
    rw [hi] at h
    simp only [Option.map_eq_some_iff] at h
    obtain ⟨z, hz, rfl⟩ := h
    exact ⟨i, z, tyI_info hi, hz, rfl⟩
end
theorem kd_kN (k : IntKind) : kd (kN k) = k := by cases k <;> rfl
theorem str_bytes (s : ByteArray) : str (s.data.toList.map (·.toNat)) = s := by
  obtain ⟨⟨l⟩⟩ := s
  have : List.map (UInt8.ofNat ∘ fun x => x.toNat) l = l := by
    conv => rhs; rw [← List.map_id l]
    exact List.map_congr_left fun x _ => by simp
  simp [str, this]
theorem cV_den {v : Value} {x : V} (h : cV v = some x) (ρ : Rho) : den ρ x = some v := by
  unfold cV at h
  split at h <;> first
    | (cases h; simp [den, kd_kN, str_bytes])
    | (split at h
       · rename_i hl
         cases h
         simp only [den, undef]
         congr 2
         exact (Array.toList_inj.1 (by simpa using hl)).symm
       · cases h)
    | cases h
theorem cVs_den {ρ : Rho} : ∀ {l : List Value} {x : List V}, cVs l = some x → denL ρ x = some l
  | [], _, h => by cases h; simp [denL]
  | v :: l, r, h => by
    unfold cVs at h
    split at h
    · rename_i x y h1 h2
      cases h
      exact denL_cons.2 ⟨v, l, rfl, cV_den h1 ρ, cVs_den h2⟩
    · cases h
theorem okT_iff {nt t : Nat} : okT nt t = true ↔ t < nt ∧ t < 256 := by simp [okT, Nat.blt_eq]
section
variable {ρ : Rho} {nt : Nat} {t : TM} {a : Act}
theorem opd_den {x : Operand} {o : OP} (h : cOpd nt x = .mk o) (H : TR ρ nt t a.tmps) : den ρ (o t) = some (a.eval x) := by
  unfold cOpd at h
  cases x with
  | tmp n =>
    simp only at h
    cases hb : okT nt n with
    | false => rw [hb] at h; cases h
    | true =>
      rw [hb] at h
      obtain ⟨h1, h2⟩ := okT_iff.1 hb
      rw [gOp_eq h2 h]
      obtain ⟨v, hv, hd⟩ := H.2 n h1 h2
      rw [hd]
      simp [Act.eval, Array.getD_eq_getD_getElem?, hv]
  | const v =>
    simp only at h
    cases hc : cV v with
    | none => rw [hc] at h; cases h
    | some y => rw [hc] at h; cases h; exact cV_den hc ρ
  | global g => cases h; simp [kv, den, Act.eval]
  | func f => cases h; simp [kv, den, denL, Act.eval]
theorem opds_den : ∀ {l : List Operand} {os : List OP}, cOpds nt l = .mk os → TR ρ nt t a.tmps → denL ρ (os.map fun o => o t) = some (l.map a.eval)
  | [], _, h, _ => by cases h; simp [denL]
  | x :: l, r, h, H => by
    unfold cOpds at h
    split at h
    · rename_i o os h1 h2
      cases h
      exact denL_cons.2 ⟨_, _, rfl, opd_den h1 H, opds_den h2 H⟩
    · cases h
/-- where a result goes -/
def dT (dst : Option Nat) (t : TM) (v : V) : TM → Prop := fun t1 => match dst with | none => t1 = t | some n => t1 = ts t n v
theorem dst_eq {dst : Option Nat} {d : DS} (h : cDst nt dst = .mk d) (v : V) (t : TM) (k : TM → R) : ∃ t1, dT dst t v t1 ∧ d v t k = k t1 := by
  cases dst with
  | none => cases h; exact ⟨t, rfl, rfl⟩
  | some n =>
    simp only [cDst] at h
    cases hb : okT nt n with
    | false => rw [hb] at h; cases h
    | true =>
      rw [hb] at h
      exact ⟨_, rfl, dOp_eq (okT_iff.1 hb).2 h v t k⟩
theorem dst_ok {dst : Option Nat} {d : DS} (h : cDst nt dst = .mk d) {v : V} {x : Value} {t1 : TM} (h1 : dT dst t v t1) (H : TR ρ nt t a.tmps) (hv : den ρ v = some x) : TR ρ nt t1 (a.put dst x).tmps ∧ (a.put dst x).defers = a.defers := by
  cases dst with
  | none => cases h1; exact ⟨H, rfl⟩
  | some n =>
    simp only [cDst] at h
    cases hb : okT nt n with
    | false => rw [hb] at h; cases h
    | true =>
      obtain ⟨h2, h3⟩ := okT_iff.1 hb
      cases h1
      exact ⟨H.put h2 h3 hv, rfl⟩
end
end Ev
