/- Operations on numbers, texts, truths. -/
import Derived.Test.YtelfddkfddnenaaGreatEvK
import Derived.WalkSmall
namespace Ev
open Go Go.RowKit
set_option linter.unusedVariables false
set_option linter.unusedSimpArgs false
theorem seq_eq : ∀ a b : List Nat, seq a b = (a.map UInt8.ofNat == b.map UInt8.ofNat)
  | [], [] => rfl
  | [], _ :: _ => rfl
  | _ :: _, [] => rfl
  | x :: a, y :: b => by
    show Bool.rec (motive := fun _ => Bool) false (seq a b) (Nat.beq (x % 256) (y % 256)) = _
    rw [seq_eq a b]
    simp only [List.map_cons, List.cons_beq_cons]
    have : (UInt8.ofNat x == UInt8.ofNat y) = Nat.beq (x % 256) (y % 256) := by
      rw [Bool.eq_iff_iff]
      simp only [beq_iff_eq, Nat.beq_eq_true_eq, Nat.beq_eq]
      constructor
      · intro h
        have := congrArg UInt8.toNat h
        simpa using this
      · intro h
        exact UInt8.toNat_inj.1 (by simpa using h)
    rw [this]
    cases Nat.beq (x % 256) (y % 256) <;> rfl
theorem str_list (l : List Nat) : (str l).toList = l.map UInt8.ofNat := by rw [ByteArray.toList_eq]; simp [str]
theorem seq_str (a b : List Nat) : seq a b = ((str a).toList == (str b).toList) := by rw [seq_eq, str_list, str_list]
theorem str_append (a b : List Nat) : str (a ++ b) = str a ++ str b := by
  apply ByteArray.ext
  simp [str, ByteArray.data_append]
section
variable {X : Spx} {P : Program} {nt : Nat} {o : Oper} {d : DS}
theorem str_guard (op : BinOp) (T : TypeId) (a b : ByteArray) (s t : Operand) (w : World) : (eqGuard op T s t (.string a) (.string b)).run P w = .ok () w := by
  unfold eqGuard; cases op <;> rfl
theorem cSr_ok {T : TypeId} {op : BinOp} {f : BF} (h : cSr op = .mk f) : BFok P f op T := by
  cases op <;> simp only [cSr] at h <;> first | cases h | skip
  · intro x y q v' h' c' H
    obtain ⟨a, e1, e2⟩ := asS_fin H
    obtain ⟨b, e3, e4⟩ := asS_fin e2
    obtain ⟨e5, e6⟩ := ifT_fin e4
    rw [fL_eq, app_eq] at e6
    refine ⟨_, e6, fun ρ X Y hX hY => ⟨.string (str a ++ str b), by simp [den, str_append], fun w s t => ?_⟩⟩
    rw [str_den e1 hX, str_den e3 hY, Sem.run_bind, str_guard]
    have hle : ¬ (((str a).size + (str b).size : Nat) : Int) > IntKind.i64.max := by
      have := Nat.le_of_ble_eq_true e5
      rw [len_eq, len_eq] at this
      have hm : IntKind.i64.max = 9223372036854775807 := by decide
      rw [str_size, str_size, hm]
      have : a.length + b.length ≤ 9223372036854775807 := this
      omega
    simp only [Result.andThen_ok]
    simp only [binOp, Op.stringOp]
    rw [if_neg hle]; rfl
  · intro x y q v' h' c' H
    obtain ⟨a, e1, e2⟩ := asS_fin H
    obtain ⟨b, e3, e4⟩ := asS_fin e2
    rw [bol_eq, seq_str] at e4
    refine ⟨_, e4, fun ρ X Y hX hY => ⟨_, rfl, fun w s t => ?_⟩⟩
    rw [str_den e1 hX, str_den e3 hY, Sem.run_bind, str_guard]; rfl
  · intro x y q v' h' c' H
    obtain ⟨a, e1, e2⟩ := asS_fin H
    obtain ⟨b, e3, e4⟩ := asS_fin e2
    rw [nbl_eq, seq_str] at e4
    refine ⟨_, e4, fun ρ X Y hX hY => ⟨_, rfl, fun w s t => ?_⟩⟩
    rw [str_den e1 hX, str_den e3 hY, Sem.run_bind, str_guard]; rfl
theorem snd_ar {op : BinOp} {T T' : TypeId} {x y : Operand} {y1 y2 : OP} {f : BF} (hop : o.op = .binOp op T x y T') (hd : cDst nt o.dst = .mk d) (h1 : cOpd nt x = .mk y1) (h2 : cOpd nt y = .mk y2) (hf : BFok P f op T) : VSnd X P nt d (fAr d f y1 y2) o := by
  refine VSnd.of (by rw [hop]; simp) hd fun cal t h c df k v' h' c' e => ?_
  obtain ⟨v, e1, e2⟩ := hf _ _ _ _ _ _ e
  refine ⟨v, e1, fun w0 ρ a w hR hT => ?_⟩
  obtain ⟨r, g1, g2⟩ := e2 ρ _ _ (opd_den h1 hT) (opd_den h2 hT)
  refine ⟨r, g1, ?_⟩
  have := g2 w x y
  simp only [execOp, hop]
  rw [Sem.run_bind, this]; rfl
theorem snd_ng {T : TypeId} {x : Operand} {y : OP} (hop : o.op = .unOp .neg T x) (hd : cDst nt o.dst = .mk d) (h1 : cOpd nt x = .mk y) : VSnd X P nt d (fNg d y) o := by
  refine VSnd.of (by rw [hop]; simp) hd fun cal t h c df k v' h' c' e => ?_
  obtain ⟨i, n, e1, e2⟩ := asI_fin e
  rw [wr_eq] at e2
  refine ⟨_, e2, fun w0 ρ a w hR hT => ⟨_, vOf_den ρ _ _, ?_⟩⟩
  have d1 := int_den (ρ := ρ) e1
  rw [opd_den h1 hT] at d1
  cases hv : a.eval x <;> rw [hv] at d1 <;> cases d1
  have : (Int.sub (.ofNat 0) n) = 0 - n := rfl
  rw [this]
  simp [execOp, hop, hv, Op.unary, Op.intArith]
theorem snd_cv {s T : TypeId} {x : Operand} {y : OP} {k0 k : IntKind} (hop : o.op = .convert s T x) (hd : cDst nt o.dst = .mk d) (h1 : cOpd nt x = .mk y) (hs : und (types P) s = some (.int k0)) (hT : und (types P) T = some (.int k)) : VSnd X P nt d (fCv d (kN k) (hiN k) y) o := by
  have run : ∀ (a : Act) (w : World) (j : IntKind) (n : Int), a.eval x = .int j n → (execOp a.eval o).run P w = .ok (.value (.int k (k.wrap n))) w := by
    intro a w j n hv
    simp [execOp, hop, hv, convert, run_underlying (und_under hs).1, run_underlying (und_under hT).1, Conv.intToInt]
  refine VSnd.of (by rw [hop]; simp) hd fun cal t h c df k' v' h' c' e => ?_
  have e' : cvI (kN k) (hiN k) (y t) (fun v => d v t fun t => k' t h c df) = .fin v' h' c' := e
  unfold cvI at e'
  rw [asX_eq] at e'
  split at e'
  · rename_i j m hy
    rw [wrN_eq] at e'
    refine ⟨_, e', fun w0 ρ a w hR hTR => ⟨_, vOf_den' k ρ _, ?_⟩⟩
    exact run a w _ _ (nat_den hy (opd_den h1 hTR))
  · obtain ⟨i, n, e1, e2⟩ := asI_fin e'
    rw [wr_eq, kd_kN] at e2
    refine ⟨_, e2, fun w0 ρ a w hR hTR => ⟨_, vOf_den' k ρ _, ?_⟩⟩
    have d1 := int_den (ρ := ρ) e1
    rw [opd_den h1 hTR] at d1
    cases d2 : a.eval x <;> rw [d2] at d1 <;> cases d1
    exact run a w _ _ d2
theorem snd_cs {s T : TypeId} {x : Operand} {y : OP} (hop : o.op = .convert s T x) (hd : cDst nt o.dst = .mk d) (h1 : cOpd nt x = .mk y) (hs : und (types P) s = some .string) (hT : und (types P) T = some .string) : VSnd X P nt d (fCs d y) o := by
  refine VSnd.of (by rw [hop]; simp) hd fun cal t h c df k' v' h' c' e => ?_
  obtain ⟨l, e1, e2⟩ := asS_fin e
  refine ⟨_, e2, fun w0 ρ a w hR hTR => ⟨.string (str l), by simp [den], ?_⟩⟩
  have hv := str_den e1 (opd_den h1 hTR)
  simp [execOp, hop, hv, convert, run_underlying (und_under hs).1, run_underlying (und_under hT).1]
theorem snd_lnS {T : TypeId} {x : Operand} {y : OP} {cc : Call} (hop : o.op = .call cc) (hcc : cc.callee = .builtin .len) (ha : cc.args.toList = [x]) (hat : cc.argTypes.toList = [T]) (hd : cDst nt o.dst = .mk d) (h1 : cOpd nt x = .mk y) (hT : und (types P) T = some .string) : VSnd X P nt d (fLnS d y) o := by
  refine VSnd.of (by rw [hop]; simp) hd fun cal t h c df k' v' h' c' e => ?_
  obtain ⟨l, e1, e2⟩ := asS_fin e
  rw [fN_eq, len_eq] at e2
  refine ⟨_, e2, fun w0 ρ a w hR hTR => ⟨.int .i64 l.length, by simp [den]; rfl, ?_⟩⟩
  have hv := str_den e1 (opd_den h1 hTR)
  have ha' : cc.args = #[x] := Array.toList_inj.1 (by simpa using ha)
  have hat' : cc.argTypes = #[T] := Array.toList_inj.1 (by simpa using hat)
  simp [execOp, hop, hcc, resolve, invoke, builtin, ha', hat', hv, Builtin.len_, run_underlying (und_under hT).1, goInt, str_size]
theorem snd_lnL {T E : TypeId} {x : Operand} {y : OP} {cc : Call} (hop : o.op = .call cc) (hcc : cc.callee = .builtin .len) (ha : cc.args.toList = [x]) (hat : cc.argTypes.toList = [T]) (hd : cDst nt o.dst = .mk d) (h1 : cOpd nt x = .mk y) (hT : und (types P) T = some (.slice E)) : VSnd X P nt d (fLnL d y) o := by
  refine VSnd.of (by rw [hop]; simp) hd fun cal t h c df k' v' h' c' e => ?_
  have ha' : cc.args = #[x] := Array.toList_inj.1 (by simpa using ha)
  have hat' : cc.argTypes = #[T] := Array.toList_inj.1 (by simpa using hat)
  rcases asL_fin e with ⟨e1, e2⟩ | ⟨b, r, n, q, s, e1, e2⟩
  · refine ⟨_, e2, fun w0 ρ a w hR hTR => ⟨.int .i64 0, by simp [den]; rfl, ?_⟩⟩
    have hv := opd_den h1 hTR
    rw [e1] at hv
    simp only [den, Option.some.injEq] at hv
    simp [execOp, hop, hcc, resolve, invoke, builtin, ha', hat', ← hv, Builtin.len_, run_underlying (und_under hT).1, goInt]
  · refine ⟨_, e2, fun w0 ρ a w hR hTR => ⟨.int .i64 n, by simp [den]; rfl, ?_⟩⟩
    obtain ⟨p, _, hv⟩ := sl_den e1 (opd_den h1 hTR)
    simp [execOp, hop, hcc, resolve, invoke, builtin, ha', hat', hv, Builtin.len_, run_underlying (und_under hT).1, goInt]
theorem snd_lna {T : TypeId} {x : Operand} {y : OP} {cc : Call} {n : Nat} (hop : o.op = .call cc) (hcc : cc.callee = .builtin .len) (ha : cc.args.toList = [x]) (hat : cc.argTypes.toList = [T]) (hd : cDst nt o.dst = .mk d) (hT : (∃ E, und (types P) T = some (.array n E)) ∨ ∃ r E, und (types P) T = some (.pointer r) ∧ und (types P) r = some (.array n E)) : VSnd X P nt d (fLna d n) o := by
  refine VSnd.of (by rw [hop]; simp) hd fun cal t h c df k' v' h' c' e => ⟨_, e, fun w0 ρ a w hR hTR => ⟨.int .i64 n, by simp [den]; rfl, ?_⟩⟩
  have ha' : cc.args = #[x] := Array.toList_inj.1 (by simpa using ha)
  have hat' : cc.argTypes = #[T] := Array.toList_inj.1 (by simpa using hat)
  rcases hT with ⟨E, hT⟩ | ⟨r, E, hT, hr⟩
  · simp [execOp, hop, hcc, resolve, invoke, builtin, ha', hat', Builtin.len_, run_underlying (und_under hT).1, goInt]
  · simp [execOp, hop, hcc, resolve, invoke, builtin, ha', hat', Builtin.len_, run_underlying (und_under hT).1, run_underlying (und_under hr).1, goInt]
theorem snd_cp {T E : TypeId} {x : Operand} {y : OP} {cc : Call} (hop : o.op = .call cc) (hcc : cc.callee = .builtin .cap) (ha : cc.args.toList = [x]) (hat : cc.argTypes.toList = [T]) (hd : cDst nt o.dst = .mk d) (h1 : cOpd nt x = .mk y) (hT : und (types P) T = some (.slice E)) : VSnd X P nt d (fCp d y) o := by
  refine VSnd.of (by rw [hop]; simp) hd fun cal t h c df k' v' h' c' e => ?_
  have ha' : cc.args = #[x] := Array.toList_inj.1 (by simpa using ha)
  have hat' : cc.argTypes = #[T] := Array.toList_inj.1 (by simpa using hat)
  rcases asL_fin e with ⟨e1, e2⟩ | ⟨b, r, n, q, s, e1, e2⟩
  · refine ⟨_, e2, fun w0 ρ a w hR hTR => ⟨.int .i64 0, by simp [den]; rfl, ?_⟩⟩
    have hv := opd_den h1 hTR
    rw [e1] at hv
    simp only [den, Option.some.injEq] at hv
    simp [execOp, hop, hcc, resolve, invoke, builtin, ha', hat', ← hv, Builtin.cap_, run_underlying (und_under hT).1, goInt]
  · obtain ⟨e3, e4⟩ := ifF_fin e2
    refine ⟨_, e4, fun w0 ρ a w hR hTR => ⟨.int .i64 q, by simp [den]; rfl, ?_⟩⟩
    obtain ⟨p, _, hv⟩ := sl_den e1 (opd_den h1 hTR)
    subst e3
    simp [execOp, hop, hcc, resolve, invoke, builtin, ha', hat', hv, Builtin.cap_, run_underlying (und_under hT).1, goInt]
theorem snd_mx {x z : Operand} {y1 y2 : OP} {cc : Call} (hop : o.op = .call cc) (hcc : cc.callee = .builtin .max) (ha : cc.args.toList = [x, z]) (hd : cDst nt o.dst = .mk d) (h1 : cOpd nt x = .mk y1) (h2 : cOpd nt z = .mk y2) : VSnd X P nt d (fMx d y1 y2) o := by
  refine VSnd.of (by rw [hop]; simp) hd fun cal t h c df k' v' h' c' e => ?_
  have ha' : cc.args = #[x, z] := Array.toList_inj.1 (by simpa using ha)
  obtain ⟨i, m, e1, e2⟩ := asI_fin e
  obtain ⟨j, n, e3, e4⟩ := asI_fin e2
  rw [vI_eq] at e4
  refine ⟨_, e4, fun w0 ρ a w hR hTR => ⟨.int (kd i) (if m < n then n else m), ?_, ?_⟩⟩
  · have := vOf_den ρ i (ifT (ilt m n) n m)
    rw [ilt_eq] at this
    rw [ilt_eq]
    by_cases hlt : m < n
    · rw [show decide (m < n) = true by simpa using hlt] at this ⊢
      rw [if_pos hlt]; exact this
    · rw [show decide (m < n) = false by simpa using hlt] at this ⊢
      rw [if_neg hlt]; exact this
  · have d1 := int_den (ρ := ρ) e1
    have d2 := int_den (ρ := ρ) e3
    rw [opd_den h1 hTR] at d1
    rw [opd_den h2 hTR] at d2
    have d1 := Option.some.inj d1
    have d2 := Option.some.inj d2
    simp [execOp, hop, hcc, resolve, invoke, builtin, ha', d1, d2, Builtin.max_, Builtin.max2]
theorem snd_mn {x z : Operand} {y1 y2 : OP} {cc : Call} (hop : o.op = .call cc) (hcc : cc.callee = .builtin .min) (ha : cc.args.toList = [x, z]) (hd : cDst nt o.dst = .mk d) (h1 : cOpd nt x = .mk y1) (h2 : cOpd nt z = .mk y2) : VSnd X P nt d (fMn d y1 y2) o := by
  refine VSnd.of (by rw [hop]; simp) hd fun cal t h c df k' v' h' c' e => ?_
  have ha' : cc.args = #[x, z] := Array.toList_inj.1 (by simpa using ha)
  obtain ⟨i, m, e1, e2⟩ := asI_fin e
  obtain ⟨j, n, e3, e4⟩ := asI_fin e2
  rw [vI_eq] at e4
  refine ⟨_, e4, fun w0 ρ a w hR hTR => ⟨.int (kd i) (if n < m then n else m), ?_, ?_⟩⟩
  · have := vOf_den ρ i (ifT (ilt n m) n m)
    rw [ilt_eq] at this
    rw [ilt_eq]
    by_cases hlt : n < m
    · rw [show decide (n < m) = true by simpa using hlt] at this ⊢
      rw [if_pos hlt]; exact this
    · rw [show decide (n < m) = false by simpa using hlt] at this ⊢
      rw [if_neg hlt]; exact this
  · have d1 := int_den (ρ := ρ) e1
    have d2 := int_den (ρ := ρ) e3
    rw [opd_den h1 hTR] at d1
    rw [opd_den h2 hTR] at d2
    have d1 := Option.some.inj d1
    have d2 := Option.some.inj d2
    simp [execOp, hop, hcc, resolve, invoke, builtin, ha', d1, d2, Builtin.min_, Builtin.min2]
end
end Ev
