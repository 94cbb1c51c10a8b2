/- maps of numbers to bools. -/
import Derived.Test.YtelfddkfddnenaaGreatEvT
namespace Ev
open Go Go.RowKit
set_option linter.unusedVariables false
set_option linter.unusedSimpArgs false
theorem asM_fin {v w : V} {h : HP} {c : Nat} {q : Nat → R} (H : asM v q = .fin w h c) : ∃ a, v = .mp a ∧ q a = .fin w h c := by cases v <;> first | exact ⟨_, rfl, H⟩ | cases H
theorem mbk_fin {h : HP} {a : Nat} {k : Nat → Nat → Nat → List Me → R} {v : V} {h' : HP} {c' : Nat} (e : mbk h a k = .fin v h' c') : ∃ kt et n l, hget h a = .mp kt et n l ∧ k kt et n l = .fin v h' c' := by
  unfold mbk at e
  cases hb : hget h a with
  | mp kt et n l => rw [hb] at e; exact ⟨kt, et, n, l, rfl, e⟩
  | _ => rw [hb] at e; cases e
theorem wfI_ok {n : Int} (h : wfI n = true) : (Lit.int .i64 n).wf = true := by
  have h2 : -9223372036854775808 ≤ n ∧ n ≤ 9223372036854775807 := by
    cases n with
    | ofNat m =>
      have : m < 9223372036854775808 := by simpa [wfI, Nat.blt_eq] using h
      simp only [Int.ofNat_eq_natCast]; omega
    | negSucc m =>
      have : m < 9223372036854775808 := by simpa [wfI, Nat.blt_eq] using h
      omega
  show (decide (IntKind.i64.min ≤ n) && decide (n ≤ IntKind.i64.max)) = true
  rw [show IntKind.i64.min = -9223372036854775808 by decide, show IntKind.i64.max = 9223372036854775807 by decide]
  simp [h2.1, h2.2]
theorem mlk_cons (x : Int) (y : Bool) (l : List Me) (n : Int) : mlk (.mk x y :: l) n = if x = n then y else mlk l n := by
  show ifT (ieq x n) y (mlk l n) = _
  by_cases h : x = n
  · rw [if_pos h, ifT_true (by rw [ieq_eq]; simpa using h)]
  · rw [if_neg h, ifT_false]
    cases hb : ieq x n with
    | false => rfl
    | true => rw [ieq_eq] at hb; exact absurd (by simpa using hb) h
theorem plainElem_bool_inv {P : Program} {e : TypeId} (he : P.underlying e = some .bool) {v : Value} {z : DataW Unit × List MemPlace} (h : plainElem P e v = some z) : ∃ x, v = .bool x ∧ z = (.lit (.bool x), []) := by
  unfold plainElem at h
  rw [he] at h
  cases v <;> simp at h
  exact ⟨_, rfl, h.symm⟩
section
variable {X : Spx} {P : Program} {nt : Nat} {o : Oper} {d : DS}
theorem zB_zero {t : Nat} (h : zB (types P) t = true) (w : World) : (zeroValue t).run P w = .ok (.bool false) w := by
  unfold zB at h
  cases hi : tyI (types P) t with
  | none => rw [hi] at h; cases h
  | some i =>
    rw [hi] at h
    simp only at h
    split at h
    · rename_i hz
      simp [zeroValue, typeInfo, tyI_info hi, hz]
    · cases h
theorem snd_mm {T kt et : Nat} (hop : o.op = .makeMap T none) (hd : cDst nt o.dst = .mk d) (hk : und (types P) kt = some (.int .i64)) (he : und (types P) et = some .bool) : OSnd X P nt (fMm d kt et) o := by
  refine OSnd.mem (by rw [hop]; simp) hd fun cal _ t h c df k v' h' c' e => ?_
  obtain ⟨e1, e2⟩ := newK_fin e
  refine ⟨_, _, _, e2, fun w0 ρ a w hR hT => ?_⟩
  refine ⟨_, .map (some w.heap.size), _, hR.le_up _, hR.new e1 (.map #[] 0) 0 (by simp) (by simp) ?_, by simp [den, up_self], Kp.new hR e1, by omega, ?_⟩
  · exact ⟨(w.heap.size, 0), .map [], up_self _ _ _, World.ownsMap_made w P kt _, (und_under hk).1, (und_under he).1, fun m _ => rfl⟩
  · simp only [execOp, hop]
    rfl
theorem snd_lk {T kt et : Nat} {x y : Operand} {y1 y2 : OP} (hop : o.op = .lookup T x y false) (hd : cDst nt o.dst = .mk d) (h1 : cOpd nt x = .mk y1) (h2 : cOpd nt y = .mk y2) (hT : und (types P) T = some (.map kt et)) (hz : zB (types P) et = true) : OSnd X P nt (fLk d kt et y1 y2) o := by
  refine OSnd.val (by rw [hop]; simp) hd fun cal t h c df k v' h' c' e => ?_
  obtain ⟨a0, e1, e2⟩ := asM_fin e
  obtain ⟨kt', et', n, l, e3, e4⟩ := mbk_fin e2
  obtain ⟨e5, e6⟩ := ifT_fin e4
  obtain ⟨e7, e8⟩ := ifT_fin e6
  have := Nat.eq_of_beq_eq_true e5; subst this
  have := Nat.eq_of_beq_eq_true e7; subst this
  obtain ⟨kd0, m, e9, e10⟩ := asI_fin e8
  obtain ⟨e11, e12⟩ := ifT_fin e10
  obtain ⟨e13, e14⟩ := ifT_fin e12
  rw [fB_eq] at e14
  refine ⟨_, e14, fun w0 ρ a w hR hTR => ⟨.bool (mlk l m), by simp [den], ?_⟩⟩
  have hx := opd_den h1 hTR
  rw [e1] at hx
  simp only [den, Option.map_eq_some_iff] at hx
  obtain ⟨p, hp, hx⟩ := hx
  have hy := Option.some.inj ((opd_den h2 hTR).symm.trans (int_den e9))
  have hkd := Nat.eq_of_beq_eq_true e11
  subst hkd
  have hb := hR.blk a0 (hR.dom _ _ hp).1
  rw [e3] at hb
  obtain ⟨p', D, q1, q2, q3, q4, q5⟩ := hb
  rw [hp] at q1; cases q1
  have hwf := wfI_ok e13
  obtain ⟨v, ps, r1, r2⟩ := q2.lookup (Maps.int_keyed q3) (und_under hT).1 (zB_zero hz w) (plainElem_bool q4 false) (Maps.keyOf_int_mk q3 hwf)
  obtain ⟨b, rfl, r3⟩ := plainElem_bool_inv q4 r2
  simp only [Prod.mk.injEq] at r3
  have r4 := r3.1
  rw [q5 m hwf] at r4
  simp only [DataW.lit.injEq, Lit.bool.injEq] at r4
  simp only [execOp, hop]
  rw [← hx, hy]
  show (do let v ← Instr.lookup T (.map (some p.1)) (.int .i64 m) false; pure (Next.value v) : Sem Next).run P w = _
  rw [Sem.run_bind, r1, ← r4]; rfl
theorem snd_mu {T kt et : Nat} {x y z : Operand} {y1 y2 y3 : OP} (hop : o.op = .mapUpdate T x y z) (hdst : o.dst = none) (h1 : cOpd nt x = .mk y1) (h2 : cOpd nt y = .mk y2) (h3 : cOpd nt z = .mk y3) (hT : und (types P) T = some (.map kt et)) : OSnd X P nt (fMu kt et y1 y2 y3) o := by
  intro cal hcal t h c df k v' h' c' e
  obtain ⟨a0, e1, e2⟩ := asM_fin e
  obtain ⟨kt', et', n, l, e3, e4⟩ := mbk_fin e2
  obtain ⟨e5, e6⟩ := ifT_fin e4
  obtain ⟨e7, e8⟩ := ifT_fin e6
  have := Nat.eq_of_beq_eq_true e5; subst this
  have := Nat.eq_of_beq_eq_true e7; subst this
  obtain ⟨kd0, m, e9, e10⟩ := asI_fin e8
  obtain ⟨e11, e12⟩ := ifT_fin e10
  obtain ⟨e13, e14⟩ := ifT_fin e12
  obtain ⟨b, e15, e16⟩ := asB_fin e14
  obtain ⟨e17, e18⟩ := ifT_fin e16
  rw [hset_eq] at e18
  have hkd := Nat.eq_of_beq_eq_true e11
  subst hkd
  refine ⟨t, _, c, e18, fun w0 ρ a w rr n' Q K hR hTR hK => ?_⟩
  have hx := opd_den h1 hTR
  rw [e1] at hx
  simp only [den, Option.map_eq_some_iff] at hx
  obtain ⟨p, hp, hx⟩ := hx
  have hy := Option.some.inj ((opd_den h2 hTR).symm.trans (int_den e9))
  have hzv := bool_den e15 (opd_den h3 hTR)
  have hb := hR.blk a0 (hR.dom _ _ hp).1
  rw [e3] at hb
  obtain ⟨p', D, q1, q2, q3, q4, q5⟩ := hb
  rw [hp] at q1; cases q1
  have hwf := wfI_ok e13
  have hn : n < 1000000 := by simpa [Nat.blt_eq] using e17
  obtain ⟨w1, r1, r2, r3⟩ := q2.update (Maps.int_keyed q3) (und_under hT).1 (by unfold maxLen; omega) (Maps.keyOf_int_mk q3 hwf) (plainElem_bool q4 b)
  have hsame : w1.heap.size = w.heap.size := by
    obtain ⟨es, clock, hbk, F, hsz, _⟩ := q2
    obtain ⟨es', clock', s1, _⟩ := Maps.fit_store (R' := plainElem P et') (Maps.int_keyed q3) (und_under hT).1 hbk F (by unfold maxLen; omega) (fun _ _ _ _ hz => hz) (Maps.keyOf_int_mk q3 hwf) (plainElem_bool q4 b)
    rw [r1] at s1
    cases s1
    simp [ChangeMaps.setBlock]
  refine ⟨fun _ _ => trivial, ?_⟩
  rw [Oper.semAt_eq _ _ _ (by rw [hop]; simp)]
  have hrun : (execOp a.eval o).run P w = .ok .skip w1 := by
    simp only [execOp, hop]
    rw [← hx, hy, hzv]
    show (do Instr.mapUpdate T (.map (some p.1)) (.int .i64 m) (.bool b); pure Next.skip : Sem Next).run P w = _
    rw [Sem.run_bind, r1]; rfl
  rw [hrun]
  show K (a.put o.dst undef) w1
  rw [hdst]
  have hlt := (hR.dom _ _ hp).1
  have hle := hR.le
  refine hK ρ a w1 (Le.refl _) (hR.set hp (by rw [e3]; exact Blk.noConfusion) (fun s hs => by rw [e3] at hs; cases hs) (fun s hs => by cases hs) hsame r3.os r3.tape r3.output (fun j hj => ?_) ?_) hTR (Kp.hs hle (by omega) fun _ hh => by rw [e3] at hh; cases hh) (Nat.le_refl _) rfl
  · by_cases hjl : j < w.heap.size
    · exact r3.block j hjl (fun e => hj (by cases e; rfl))
    · rw [Array.getElem?_eq_none (by omega), Array.getElem?_eq_none (by omega)]
  · refine ⟨p, _, hp, r2, q3, q4, fun m' hm' => ?_⟩
    rw [mlk_cons]
    by_cases hmm : m = m'
    · subst hmm
      rw [if_pos rfl, Maps.atKey_put_same q2.isMap (show WideAt.IsKeyLit (.int .i64 m) from trivial)]
    · rw [if_neg hmm, Maps.atKey_put_other (fun e => hmm (by cases e; rfl)), q5 m' hm']
end
end Ev
