/- the range over a function; rounds. -/
import Derived.Test.YtelfddkfddnenaaGreatEvW
import Derived.RangeFuncRecord
namespace Ev
open Go Go.RowKit
set_option linter.unusedVariables false
set_option linter.unusedSimpArgs false
section
variable {X : Spx} {P : Program} {nt : Nat} {one : Bool} {w0 : Base} {w : World} {ρ : Rho} {h : HP} {c : Nat}
theorem HR.put (H : HR X P w0 ρ h c w) {a : Nat} {p : Nat × Nat} {b : Blk} {o : Obj} (ha : ρ a = some p) (hx : hget h a ≠ .x) (hsp : ∀ s, hget h a ≠ .sp s) (hs : ∀ s, b ≠ .sp s) (hB : BR X P ρ a (w.putObj p.1 o) b) : HR X P w0 ρ (Ev.hs h a b) c (w.putObj p.1 o) :=
  H.set ha hx hsp hs World.putObj_size rfl rfl rfl (fun k hk => World.putObj_heap_other hk) hB
theorem nK_fin {b : Blk} {k : HP → Nat → R} {v : V} {h' : HP} {c' : Nat} (e : newK b h c k = .fin v h' c') : c ≤ 65535 ∧ k (hs h c b) (c + 1) = .fin v h' c' := by
  obtain ⟨e1, e2⟩ := ifT_fin (show ifT (Nat.ble c (nat_lit 65535)) (hset b h c fun h => fN (Nat.add c (nat_lit 1)) fun x => k h x) (.bad 16) = _ from e)
  rw [hset_eq, fN_eq] at e2
  exact ⟨Nat.le_of_ble_eq_true e1, e2⟩
theorem lpK_fin {a : Nat} {k : Nat → Ex → Nat → TM → R} {v : V} {h' : HP} {c' : Nat} (e : lpK h a k = .fin v h' c') : ∃ st pe g t, hget h a = .lp st pe g t ∧ k st pe g t = .fin v h' c' := by
  unfold lpK at e
  cases hb : hget h a with
  | lp st pe g t => rw [hb] at e; exact ⟨st, pe, g, t, rfl, e⟩
  | _ => rw [hb] at e; cases e
theorem asF_fin {v : V} {q : R} {v' : V} {h' : HP} {c' : Nat} (e : asF v q = .fin v' h' c') : ∃ g x y, v = .f g x y ∧ q = .fin v' h' c' := by
  cases v with
  | f g x y => exact ⟨g, x, y, rfl, e⟩
  | _ => cases e
theorem HR.lp (H : HR X P w0 ρ h c w) {a st g : Nat} {pe : Ex} {t : TM} {p : Nat × Nat} (ha : ρ a = some p) (e : hget h a = .lp st pe g t) :
    ∃ L fn bd, w.heap[p.1]? = some (.loop L) ∧ L.state = stt st ∧ L.pending = pnd pe ∧ P.funcs[g]? = some fn ∧ fn.body = some bd ∧ findR bd = [(L.params, L.assign, L.body)] ∧ TR ρ fn.ntmps t L.tmps := by
  have := H.blk a (H.dom _ _ ha).1; rw [e] at this
  obtain ⟨p', L, fn, bd, h1, h2⟩ := this
  rw [ha] at h1; cases h1
  exact ⟨L, fn, bd, h2⟩
/-- a loop's record is turned -/
theorem HR.lpPut (H : HR X P w0 ρ h c w) {a st st' g : Nat} {pe pe' : Ex} {t : TM} {p : Nat × Nat} {L : Loop} (ha : ρ a = some p) (e : hget h a = .lp st pe g t) (hL : w.heap[p.1]? = some (.loop L)) {s' : LoopState} {q' : Option Code} (h1 : s' = stt st') (h2 : q' = pnd pe') :
    HR X P w0 ρ (hs h a (.lp st' pe' g t)) c (w.putObj p.1 (.loop { L with state := s', pending := q' })) := by
  obtain ⟨L', fn, bd, r1, r2, r3, r4, r5, r6, r7⟩ := H.lp ha e
  rw [hL] at r1; cases r1
  exact H.put ha (by rw [e]; simp) (by rw [e]; simp) (by simp) ⟨p, { L with state := s', pending := q' }, fn, bd, ha, World.putObj_heap_same (H.dom _ _ ha).2.2, h1, h2, r4, r5, r6, r7⟩
theorem csnd_rf {o : Operand} {f : OP} {ps : Array Tmp} {a b : Code} {g : Nat} {fn : Func} {bd : Code} (hf : P.funcs[g]? = some fn) (hb : fn.body = some bd) (hr : findR bd = [(ps, a, b)]) (ho : cOpd fn.ntmps o = .mk f) (hone : one = true) :
    CSnd X P fn.ntmps one (rfC g f) (.rangeFunc o ps a b) := by
  intro cal hcal t h cc df kn ke v' h' c' e
  obtain ⟨e1, e2⟩ := nK_fin e
  obtain ⟨e3, e4⟩ := nK_fin e2
  obtain ⟨gg, xs, ys, e5, e6⟩ := asF_fin e4
  obtain ⟨v, h1, c1, e7, hw⟩ := hcal _ _ _ _ _ _ _ _ e6
  obtain ⟨st, pe, g', t', e8, e9⟩ := lpK_fin e7
  cases hst : Nat.beq st 1 with
  | true => rw [hst] at e9; cases e9
  | false =>
  rw [hst, ifT_false rfl, hset_eq] at e9
  have fin : ∃ e, kx kn ke e t (hs h1 (cc + 1) (.lp 3 pe g' t')) c1 (cc :: df) = .fin v' h' c' ∧ e = pe := by
    cases pe with
    | nx => exact ⟨.nx, e9, rfl⟩
    | ex i => exact ⟨.ex i, e9, rfl⟩
    | rt => exact ⟨.rt, e9, rfl⟩
  obtain ⟨e0, k0, rfl⟩ := fin
  refine ⟨e0, t, _, c1, cc :: df, k0, fun w0 ρ ac w r n Q hro hR hT hD hK => ?_⟩
  have hrn := hro hone
  subst hrn
  refine wpIn_rangeFunc fun fn' _ => ?_
  have hle := hR.le
  -- the two blocks
  have hR1 := hR.new (b := .df) e1 (.deferred (some [])) 0 (by simp) (by simp) ⟨(w.heap.size, 0), up_self _ _ _, World.alloc_heap_new _ _⟩
  have hl1 := hR.le_up (w.heap.size, 0)
  let L : Loop := { state := .ready, pending := none, fn := fn', tmps := ac.tmps, params := ps, assign := a, body := b, defers := w.heap.size }
  have hR2 := hR1.new (b := .lp 0 .nx g t) e3 (.loop L) 0 (by simp) (by simp) ⟨((w.alloc (.deferred (some []))).heap.size, 0), L, fn, bd, up_self _ _ _, World.alloc_heap_new _ _, rfl, rfl, hf, hb, hr, (hT.mono hl1).mono (hR1.le_up _)⟩
  have hl2 := hR1.le_up ((w.alloc (.deferred (some []))).heap.size, 0)
  have hs1 : (w.alloc (.deferred (some []))).heap.size = w.heap.size + 1 := World.size_alloc _ _
  generalize hρ2 : up (up ρ cc (w.heap.size, 0)) (cc + 1) ((w.alloc (.deferred (some []))).heap.size, 0) = ρ2 at hR2 hl2
  have hy : ρ2 (cc + 1) = some (w.heap.size + 1, 0) := by rw [← hρ2, up_self, hs1]
  have hm : ρ2 cc = some (w.heap.size, 0) := hl2 _ _ (up_self _ _ _)
  have hg2 : ∀ k, k < cc + 1 + 1 → hget (hs (hs h cc .df) (cc + 1) (.lp 0 .nx g t)) k = if k = cc + 1 then .lp 0 .nx g t else if k = cc then .df else hget h k := fun k hk => by
    rw [hget_hs _ _ (by omega) (by omega)]
    split
    · rfl
    · rw [hget_hs _ _ (by omega) (by omega)]
  have hv := opd_den ho ((hT.mono hl1).mono hl2)
  have hd := hw w0 ρ2 _ _ [.func (.yield (w.heap.size + 1)) #[] #[]] hR2 hv (by simp [denL, den, hy])
  rw [e5] at hv
  simp only [den, Option.bind_eq_some_iff, Option.map_eq_some_iff] at hv
  obtain ⟨fs, hfs, cs, hcs, hval⟩ := hv
  rcases hd with ⟨f', args, r1, r2⟩ | ⟨⟨i, hi⟩, _⟩
  case inr => rw [e5] at hi; cases hi
  have hval' : ac.eval o = .func (.func gg) fs.toArray cs.toArray := hval.symm
  rw [hval'] at r1
  simp only [Deferred.ofValue, Sem.run_bind, Sem.run_pure, Result.andThen_ok] at r1
  have hres : (resolve ac.eval (rangeCall o (w.heap.size + 1)) 0).run P ((w.alloc (.deferred (some []))).alloc (.loop L)) = .ok ⟨.fn (.func gg) cs.toArray, fs.toArray ++ #[.func (.yield (w.heap.size + 1)) #[] #[]]⟩ ((w.alloc (.deferred (some []))).alloc (.loop L)) := by
    have hm' : Array.map ac.eval #[.const (.func (.yield (w.heap.size + 1)) #[] #[])] = #[.func (.yield (w.heap.size + 1)) #[] #[]] := by simp [Act.eval]
    simp only [resolve, rangeCall, hval', Deferred.ofValue, hm', Sem.run_pure]
  have hent : (Instr.enterLoop fn' ac.tmps ps a b (Fr none).round).run P w = .ok (w.heap.size + 1, [{ target := .collected w.heap.size, args := #[] }]) ((w.alloc (.deferred (some []))).alloc (.loop L)) := run_enterLoop_outer _ _ _ _ _
  have hdep : ((Fr none).depth.isSome = true → 1 ≤ n) := fun hh => by simp [Fr, Fence.wide] at hh
  refine ⟨_, _, _, _, _, f', args, _, hent, hres, fun _ _ => trivial, r1, hdep, ?_⟩
  refine calls_in (r2.mono ?_)
  · rintro e w' ⟨x, rfl, ρ3, l3, q1, q2, q3, q4⟩
    have hy3 := l3 _ _ hy
    have hm3 := l3 _ _ hm
    obtain ⟨L3, fn3, bd3, j1, j2, j3, j4, j5, j6, j7⟩ := q1.lp hy3 e8
    have hbusy : L3.state ≠ .busy := by
      rw [j2]
      match st, hst with
      | 0, _ => simp [stt]
      | 2, _ => simp [stt]
      | n + 3, _ => simp [stt]
    have hR3 := q1.lpPut (st' := 3) (pe' := e0) hy3 e8 j1 (s' := .exhausted) (q' := L3.pending) rfl j3
    have hdf : hget h1 cc = .df := q3 cc (by omega) (by rw [hg2 cc (by omega), if_neg (by omega), if_pos rfl])
    have hc1 := q1.le
    have hdf3 : ∀ k, k < c1 → hget (hs h1 (cc + 1) (.lp 3 e0 g' t')) k = if k = cc + 1 then .lp 3 e0 g' t' else hget h1 k := fun k hk => hget_hs _ _ (by omega) (by omega)
    have hkp : Kp h (hs h1 (cc + 1) (.lp 3 e0 g' t')) cc := fun k hk hh => by
      rw [hdf3 k (by omega), if_neg (by omega)]
      exact q3 k (by omega) (by rw [hg2 k (by omega), if_neg (by omega), if_neg (by omega)]; exact hh)
    have hA : At X P w0 ρ fn.ntmps h cc df ρ3 t (hs h1 (cc + 1) (.lp 3 e0 g' t')) c1 (cc :: df) { ac with defers := [{ target := .collected w.heap.size, args := #[] }] ++ ac.defers } (w'.putObj (w.heap.size + 1) (.loop { L3 with state := .exhausted, pending := L3.pending })) := by
      have hle3 : Le ρ ρ3 := (hl1.trans hl2).trans l3
      refine ⟨hle3, hR3, hT.mono hle3, ⟨⟨⟨_, hm3, rfl⟩, (hD.mono hle3 hkp (by omega)).1⟩, List.nodup_cons.2 ⟨fun hin => absurd (hD.2.2 _ hin).1 (by omega), hD.2.1⟩, fun k hk => ?_⟩, hkp, by omega, fun k hk => ?_⟩
      · rcases List.mem_cons.1 hk with rfl | hk
        · exact ⟨by omega, by rw [hdf3 _ (by omega), if_neg (by omega)]; exact hdf⟩
        · exact (hD.mono hle3 hkp (by omega)).2.2 k hk
      · rcases List.mem_cons.1 hk with rfl | hk
        · exact .inr (Nat.le_refl _)
        · exact .inl hk
    refine ⟨_, _, run_endLoop j1 hbusy, ?_⟩
    rw [j3] at hA ⊢
    cases e0 with
    | nx => exact hK _ _ _ hA
    | ex i => exact wpIn_exit (hK _ _ _ hA)
    | rt => exact wpIn_ret (hK _ _ _ hA)
end
end Ev
