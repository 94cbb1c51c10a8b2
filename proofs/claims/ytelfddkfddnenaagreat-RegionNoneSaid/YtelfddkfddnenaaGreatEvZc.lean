/- the machine's calls; the top. -/
import Derived.Test.YtelfddkfddnenaaGreatEvZb
namespace Ev
open Go Go.RowKit
set_option linter.unusedVariables false
set_option linter.unusedSimpArgs false
section
variable {X : Spx} {P : Program}
theorem callFunc_ok {f : FuncId} {fn : Func} {c : Code} (hf : P.funcs[f]? = some fn) (hname : (fn.name == "runtime.NumGoroutine") = false) (hb : fn.body = some c) (args : Array Value) (w : World) : (callFunc f args).run P w = .ok (.enter f args) w := by
  have h1 : fn.name ≠ "runtime.NumGoroutine" := by simpa using hname
  simp [callFunc, hf, h1, hb]
theorem sts_fin : ∀ {l : List V} {k : List (List Nat) → R} {v : V} {h : HP} {c : Nat}, sts l k = .fin v h c → ∃ ls : List (List Nat), l = ls.map V.s ∧ k ls = .fin v h c
  | [], k, v, h, c, e => ⟨[], rfl, e⟩
  | x :: l, k, v, h, c, e => by
    obtain ⟨s, rfl, e1⟩ := asS_fin (show asS x (fun s => sts l fun l => k (s :: l)) = .fin v h c from e)
    obtain ⟨ls, rfl, e2⟩ := sts_fin e1
    exact ⟨s :: ls, rfl, e2⟩
def u8 (l : List Nat) : List UInt8 := l.map UInt8.ofNat
theorem jnT_eq (sep : List Nat) : ∀ r : List (List Nat), u8 (jnT sep r) = Lib.joinTail (u8 sep) (r.map u8)
  | [] => rfl
  | y :: r => by
    show u8 (Ev.app sep (Ev.app y (jnT sep r))) = _
    rw [app_eq, app_eq]
    have := jnT_eq sep r
    unfold Lib.joinTail at *
    simp only [u8, List.map_append, List.map_cons, List.flatten_cons, List.append_assoc] at *
    rw [this]
theorem jnN_eq (l : List (List Nat)) (sep : List Nat) : u8 (jnN l sep) = Lib.join (l.map u8) (u8 sep) := by
  cases l with
  | nil => rfl
  | cons x r =>
    show u8 (Ev.app x (jnT sep r)) = _
    rw [app_eq, List.map_cons, Lib.join_cons, ← jnT_eq]
    simp [u8]
theorem denL_strs (ρ : Rho) : ∀ {ls : List (List Nat)} {vs : List Value}, denL ρ (ls.map V.s) = some vs → vs = ls.map fun l => .string (str l)
  | [], vs, h => by simp only [denL, List.map_nil, Option.some.injEq] at h; subst h; rfl
  | l :: ls, vs, h => by
    obtain ⟨x, xs, rfl, h1, h2⟩ := denL_cons.1 h
    simp [den] at h1
    rw [denL_strs ρ h2, ← h1]; rfl
/-- strings.Join -/
theorem jnK_ok {g : Nat} (h4 : ∀ (sep : ByteArray) w, Calls P g #[.slice none 0 0, .string sep] w fun e w' => e = .returned (.string ⟨#[]⟩) ∧ w' = w)
    (h5 : ∀ (bk o c : Nat) (xs : List ByteArray) (sep : ByteArray) (w : World), (∀ (j : Nat) x, xs[j]? = some x → w.cell? ⟨bk, o + j, none⟩ = some (.string x)) → bk < w.heap.size → xs.length ≤ 140737488355328 → xs.length ≤ c → (Lib.join (xs.map (·.data.toList)) sep.data.toList).length ≤ 140737488355328 →
      Calls P g #[.slice (some ⟨bk, o, none⟩) xs.length c, .string sep] w fun e w' => e = .returned (.string ⟨(Lib.join (xs.map (·.data.toList)) sep.data.toList).toArray⟩) ∧ Below w.heap.size w w')
    {l : List V} {h : HP} {c : Nat} {k : KV} {v' : V} {h' : HP} {c' : Nat} (e : jnK l h c k = .fin v' h' c') : ∃ v, k v h c = .fin v' h' c' ∧
      ∀ w0 ρ w lv, HR X P w0 ρ h c w → denL ρ l = some lv → Calls P g lv.toArray w fun e w' => ∃ x, e = .returned x ∧ ∃ ρ', Le ρ ρ' ∧ HR X P w0 ρ' h c w' ∧ den ρ' v = some x ∧ Kp h h c ∧ c ≤ c := by
  cases l with
  | nil => cases e
  | cons v l =>
  cases l with
  | nil => cases e
  | cons s l =>
  cases l with
  | cons _ _ => cases e
  | nil =>
  obtain ⟨sep, rfl, e1⟩ := asS_fin (show jnB v s h c k = .fin v' h' c' from e)
  rcases asL_fin e1 with ⟨rfl, e2⟩ | ⟨a, o, n, ee, q, rfl, e2⟩
  · refine ⟨_, e2, fun w0 ρ w lv hR hl => ?_⟩
    obtain ⟨x, xs, rfl, d1, d2⟩ := denL_cons.1 hl
    obtain ⟨y, ys, rfl, d3, d4⟩ := denL_cons.1 d2
    simp [den] at d1 d3
    simp [denL] at d4
    subst d4; subst d1; subst d3
    refine (h4 (str sep) w).mono ?_
    rintro e w' ⟨rfl, rfl⟩
    exact ⟨_, rfl, ρ, Le.refl _, hR, by simp [den, str], Kp.refl _ _, Nat.le_refl _⟩
  · obtain ⟨ty, m, q', z, u, hb, e3⟩ := blk_fin e2
    obtain ⟨e4, e5⟩ := ifT_fin e3
    obtain ⟨e6, e7⟩ := ifT_fin e5
    obtain ⟨e8, e9⟩ := ifT_fin e7
    rw [cellsK_eq] at e9
    obtain ⟨ls, g1, g2⟩ := sts_fin e9
    rw [fL_eq] at g2
    obtain ⟨g3, g4⟩ := ifT_fin g2
    have hon : o + n ≤ m := Nat.le_of_ble_eq_true e4
    have hn : n ≤ 140737488355328 := Nat.le_of_ble_eq_true e8
    have hlen : ls.length = n := by have := congrArg List.length g1; simpa using this.symm
    refine ⟨_, g4, fun w0 ρ w lv hR hl => ?_⟩
    obtain ⟨x, xs, rfl, d1, d2⟩ := denL_cons.1 hl
    obtain ⟨y, ys, rfl, d3, d4⟩ := denL_cons.1 d2
    simp only [den, Option.map_eq_some_iff] at d1
    obtain ⟨p, hp, rfl⟩ := d1
    simp [den] at d3
    simp [denL] at d4
    subst d4; subst d3
    obtain ⟨vs, k1, k2, k3, _⟩ := hR.cells (P := P) hp hb hon
    rw [g1] at k2
    have hvs := denL_strs ρ k2
    obtain ⟨cs, r1, r2, r3, r4, r5, r6⟩ := hR.row hp hb
    have hcap : (ls.map str).length ≤ if q = true then p.2 - ee else ee := by
      rw [List.length_map, hlen]
      cases q with
      | false => exact Nat.le_of_ble_eq_true e6
      | true =>
        have e6' : ifT (Nat.beq q' 1) (Nat.ble (ee + n) m) false = true := e6
        cases hq : Nat.beq q' 1 with
        | false => rw [hq] at e6'; cases e6'
        | true =>
          rw [hq] at e6'
          have h1 := Nat.eq_of_beq_eq_true hq
          subst h1
          have h2 : ee + n ≤ m := Nat.le_of_ble_eq_true e6'
          have h3 := r5 (by decide)
          simp only [if_true]; omega
    have hjoin : Lib.join ((ls.map str).map (·.data.toList)) (str sep).data.toList = u8 (jnN ls sep) := by
      rw [jnN_eq]
      congr 1
      rw [List.map_map]
      exact List.map_congr_left fun l _ => rfl
    have hc := h5 p.1 o (if q = true then p.2 - ee else ee) (ls.map str) (str sep) w (fun j x hx => by
      have hj : vs[j]? = some (.string x) := by
        rw [hvs]
        simp only [List.getElem?_map] at hx ⊢
        cases hlj : ls[j]? with
        | none => rw [hlj] at hx; cases hx
        | some l => rw [hlj] at hx; simp at hx; simp [hx]
      have := k3 j _ hj
      rw [addr_add] at this
      exact this) (hR.dom _ _ hp).2.2 (by simp [hlen, hn]) hcap (by rw [hjoin]; unfold u8; rw [List.length_map, ← len_eq]; exact Nat.le_of_ble_eq_true g3)
    have hl2 : (ls.map str).length = n := by rw [List.length_map, hlen]
    rw [hl2] at hc
    refine hc.mono ?_
    rintro e w' ⟨rfl, hB⟩
    refine ⟨_, rfl, ρ, Le.refl _, hR.below hB, ?_, Kp.refl _ _, Nat.le_refl _⟩
    rw [hjoin]; simp [den, str, u8]
/-- a call of a function -/
theorem callE_ok (hD : DrawnOK X P) {ft : T CF} (hft : FTok P ft) {cal : CAL} (hcal : CalOK X P cal) {g : Nat} {l : List V} {h : HP} {c : Nat} {k : KV} {v' : V} {h' : HP} {c' : Nat} (e : callE slots ft cal g l h c k = .fin v' h' c') :
    ∃ fn bd, P.funcs[g]? = some fn ∧ (fn.name == "runtime.NumGoroutine") = false ∧ fn.body = some bd ∧ ∃ v h1 c1, k v h1 c1 = .fin v' h' c' ∧
      ∀ w0 ρ w lv, HR X P w0 ρ h c w → denL ρ l = some lv → Calls P g lv.toArray w fun e w' => ∃ x, e = .returned x ∧ ∃ ρ', Le ρ ρ' ∧ HR X P w0 ρ' h1 c1 w' ∧ den ρ' v = some x ∧ Kp h h1 c ∧ c ≤ c1 := by
  unfold callE at e
  cases hT : T.get CF.no ft g with
  | no => rw [hT] at e; cases e
  | jn =>
    rw [hT] at e
    obtain ⟨fn, bd, h1, h2, h3, h4, h5⟩ := (hft g).2.2 hT
    obtain ⟨v, e1, w1⟩ := jnK_ok (X := X) h4 h5 e
    exact ⟨fn, bd, h1, h2, h3, v, h, c, e1, w1⟩
  | kn v =>
    rw [hT] at e
    obtain ⟨fn, bd, x, h1, h2, h3, h4, h5⟩ := (hft g).2.1 v hT
    cases l with
    | cons a l => cases e
    | nil =>
      refine ⟨fn, bd, h1, h2, h3, v, h, c, e, fun w0 ρ w lv hR hl => ?_⟩
      simp only [denL, Option.some.injEq] at hl
      subst hl
      exact (h5 w).mono fun e w' hh => ⟨x, hh.1, ρ, Le.refl _, hR.below hh.2, h4 ρ, Kp.refl _ _, Nat.le_refl _⟩
  | fn rs b r =>
    rw [hT] at e
    obtain ⟨fn, hfn, hc⟩ := (hft g).1 _ _ _ hT
    obtain ⟨bd, hb, _, _, hname, _⟩ := cF_fn hc
    exact ⟨fn, bd, hfn, hname, hb, body_ok hD hcal hfn hc e⟩
theorem goE_ok (hD : DrawnOK X P) {ft : T CF} (hft : FTok P ft) {cal : CAL} (hcal : CalOK X P cal) : CalOK X P (goE slots ft cal) := by
  intro g l h c k v' h' c' e
  cases g with
  | y i =>
    obtain ⟨v, h1, c1, e1, w1⟩ := yield_ok hD hft hcal (show yieldE ft cal i l h c k = .fin v' h' c' from e)
    refine ⟨v, h1, c1, e1, fun w0 ρ w gv lv hR hg hl => .inr ⟨⟨i, rfl⟩, ?_⟩⟩
    simp only [den, Option.map_eq_some_iff] at hg
    obtain ⟨p, hp, rfl⟩ := hg
    obtain ⟨f, tmps, a, b, r1, r2⟩ := w1 w0 ρ w p lv hR hp hl
    refine ⟨p.1, f, tmps, a, b, ?_, r2⟩
    simp only [Deferred.ofValue, Sem.run_bind, Sem.run_pure, Result.andThen_ok, invoke]
    simpa using r1
  | f gg x y =>
    obtain ⟨fn, bd, hfn, hname, hb, v, h1, c1, e1, w1⟩ := callE_ok hD hft hcal (show callE slots ft cal gg (Ev.app x (Ev.app l y)) h c k = .fin v' h' c' from e)
    refine ⟨v, h1, c1, e1, fun w0 ρ w gv lv hR hg hl => .inl ?_⟩
    simp only [den, Option.bind_eq_some_iff, Option.map_eq_some_iff] at hg
    obtain ⟨xs, hx, ys, hy, rfl⟩ := hg
    have hargs : denL ρ (Ev.app x (Ev.app l y)) = some (xs ++ (lv ++ ys)) := by
      rw [app_eq, app_eq]; exact denL_append hx (denL_append hl hy)
    refine ⟨gg, (xs ++ (lv ++ ys)).toArray, ?_, (w1 w0 ρ w _ hR hargs).mono fun e w' hh => hh⟩
    simp only [Deferred.ofValue, Sem.run_bind, Sem.run_pure, Result.andThen_ok, invoke]
    rw [callFunc_ok hfn hname hb]
    simp
  | _ => cases e
theorem callN_ok (hD : DrawnOK X P) {ft : T CF} (hft : FTok P ft) : ∀ n, CalOK X P (callN slots ft n)
  | 0 => fun g l h c k v' h' c' e => (by cases e)
  | n + 1 => goE_ok hD hft (callN_ok hD hft n)
end
/-- nothing special -/
def noX : Spx where
  In := fun _ _ _ => False
  Ft := fun _ _ _ => False
  lt := fun h => h.elim
  mv := fun h => h.elim
def Base.all (w : World) : Base := ⟨w, fun k => k < w.heap.size, fun _ h => h, fun _ => False⟩
theorem HR.init {X : Spx} {P : Program} (b : Base) (hb : ∀ k, ¬ b.no k) : HR X P b (fun _ => none) h0 0 b.w :=
  ⟨⟨rfl, rfl, rfl, Nat.le_refl _, fun _ _ => rfl⟩, by omega, fun k p h => (by cases h), fun k k' p p' h => (by cases h), fun k hk => absurd hk (by omega), fun k a A _ h => (by cases h), fun k k' a a' hk => absurd hk (by omega), fun k hk => absurd hk (hb k)⟩
/-- a run that comes to its end is the program's -/
theorem run_ok {P : Program} (hD : DrawnOK noX P) {ft : T CF} (hft : FTok P ft) {n f : Nat} {v : V} {h : HP} {c : Nat} {x : Value} (e : run ft (n + 1) f = .fin v h c) (hx : ∀ ρ, den ρ v = some x) (w : World) :
    Calls P f #[] w fun e w' => e = .returned x ∧ Below w.heap.size w w' := by
  obtain ⟨fn, bd, _, _, _, v1, h1, c1, e1, w1⟩ := callE_ok hD hft (callN_ok hD hft n) (show callE slots ft (callN slots ft n) f [] h0 0 (fun v h c => .fin v h c) = .fin v h c from e)
  cases e1
  refine (w1 (Base.all w) (fun _ => none) w [] (HR.init (Base.all w) fun _ h => h) (by simp [denL])).mono ?_
  rintro e w' ⟨y, rfl, ρ', _, hR, hd, _, _⟩
  rw [hx ρ'] at hd
  cases hd
  exact ⟨rfl, hR.bel.os, hR.bel.tape, hR.bel.output, hR.bel.size, fun k hk => hR.bel.block k hk⟩
end Ev
