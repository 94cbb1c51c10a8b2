/- EvZi, EvZj, EvZk, EvZl, EvZm. -/
import Derived.Test.YtbeldoiaecjkgaaGreatDoorMeF
section
namespace Ev
open Go Go.RowKit
set_option linter.unusedVariables false
set_option linter.unusedSimpArgs false
/-- the block that an operation makes, in whatever world -/
def ES (P : Program) (nt : Nat) (o : Oper) (t : TM) (id : Nat) (v : V) (b : Blk) : Prop := ∃ ty n z u, b = .c ty n 0 z u ∧ n ≤ u.cap ∧ ∀ (ρ : Rho) (w : World) (a : Act), TR ρ nt t a.tmps → ∃ cs x,
  cs.size = n ∧ CR ρ z u n cs ∧ (∀ ρ' : Rho, ρ' id = some (w.heap.size, 0) → den ρ' v = some x) ∧ (execOp a.eval o).run P w = .ok (.value x) (w.alloc (.cells cs ty))
def ESnd (P : Program) (nt : Nat) (f : OC) (o : Oper) (d : DS) : Prop := ∀ cal t h c df k v' h' c', f cal t h c df k = .fin v' h' c' → ∃ v b, c ≤ 65535 ∧ (d v t fun t => k t (hs h c b) (c + 1) df) = .fin v' h' c' ∧ ES P nt o t c v b
section
variable {P : Program} {nt : Nat} {o : Oper} {d : DS}
theorem early_alloc {T : TypeId} {l : List Value} {z : Z} (hop : o.op = .alloc T) (hz : zOf (types P) T = some l) (hzz : zer l = some z) (hl : l.length = siz (types P) T) : ESnd P nt (fAlloc d T (siz (types P) T) z) o d := by
  intro cal t h c df k v' h' c' e
  obtain ⟨e1, e2, e3⟩ := newC_fin e
  refine ⟨_, _, e2, e3, _, _, _, _, rfl, e1, fun ρ w a hT => ?_⟩
  obtain ⟨i, zv, hi, hzv, hcl⟩ := zOf_zero hz
  have hsz : zv.cells.size = siz (types P) T := by rw [← hl, ← hcl]; simp
  refine ⟨zv.cells, .pointer (some ⟨w.heap.size, 0, none⟩), hsz, ?_, fun ρ' hp => by simp [den, hp], ?_⟩
  · intro j hj
    obtain ⟨v, g1, g2⟩ := zer_pat hzz ρ j (by omega)
    rw [Nat.mod_eq_of_lt (by omega)] at g1
    refine ⟨v, by rw [← hcl] at g1; simpa using g1, ?_⟩
    unfold cell
    rw [orD_u (cget_ce0 _ _ (by omega))]; exact g2
  · simp [execOp, hop, Instr.alloc, zeroValue, typeInfo, hi, hzv, newVar, newRow]
theorem early_box {T : TypeId} {x : Operand} {y : OP} (hop : o.op = .box T x) (h1 : cOpd nt x = .mk y) : ESnd P nt (fBox d T (siz (types P) T) y) o d := by
  intro cal t h c df k v' h' c' e
  obtain ⟨e0, e1⟩ := ifT_fin e
  have hlen : (cl (y t)).length = siz (types P) T := by rw [← len_eq]; exact Nat.eq_of_beq_eq_true e0
  obtain ⟨u, e2, e3, e8, e4⟩ := stK_fin (o := 0) e1
  obtain ⟨e5, e6, e7⟩ := newC_fin e2
  refine ⟨_, _, e6, e7, _, _, _, _, rfl, e5, fun ρ w a hT => ?_⟩
  have hx := cl_den (opd_den h1 hT)
  have hsz : (a.eval x).cells.size = siz (types P) T := by have := denL_length hx; rw [hlen] at this; simpa using this
  have hcap0 : siz (types P) T ≤ (ce0 (siz (types P) T)).cap := e8 ▸ e5
  have hu := e4 (by omega)
  refine ⟨(a.eval x).cells, .pointer (some ⟨w.heap.size, 0, none⟩), hsz, ?_, fun ρ' hp => by simp [den, hp], ?_⟩
  · rw [hu]
    refine CR.sets (n := 0) (cs := #[]) (fun i hi => by omega) hx e3 (by omega) hcap0 fun i hi => ?_
    rw [if_pos ⟨by omega, by omega⟩]
    simp
  · simp [execOp, hop, Instr.box, newVar, newRow]
theorem early_bsl {T E n : Nat} {ps : Array (Nat × Operand)} {z : List V} {l : List Value} {os : List (Nat × Nat × OP)} (hop : o.op = .buildSlice T n ps) (hT : und (types P) T = some (.slice E)) (hz : zOf (types P) E = some l) (hzz : cVs l = some z) (hl : z.length = siz (types P) E) (hpos : 0 < siz (types P) E) (hle : n * siz (types P) E ≤ 1000000)
    (hp : parts (types P) nt (fun i => some (i * siz (types P) E, siz (types P) E)) ps.toList = .mk os) : ESnd P nt (fBsl d E (siz (types P) E) n z os) o d := by
  intro cal t h c df k v' h' c' e
  have e0 : psK (n * siz (types P) E) t os (ce0 (n * siz (types P) E)) (fun u => newC E (n * siz (types P) E) (nat_lit 0) (.l z (siz (types P) E)) u h c fun h c' => d (.sl c (nat_lit 0) n n false) t fun t => k t h c' df) = .fin v' h' c' := by
    have := e; unfold fBsl at this; rw [fN_eq] at this; exact this
  obtain ⟨u, e1, e2, e3⟩ := psK_fin hp e0
  obtain ⟨e4, e5, e6⟩ := newC_fin e1
  refine ⟨_, _, e5, e6, _, _, _, _, rfl, e4, fun ρ w a hT' => ?_⟩
  obtain ⟨i, zv, hi, hzv, hcl⟩ := zOf_zero hz
  obtain ⟨ie, hie, hs, _⟩ := siz_pos hpos
  rw [hi] at hie; cases hie
  have hzd := cVs_den (ρ := ρ) hzz
  have hlen : l.length = siz (types P) E := by rw [← hl]; exact denL_length hzd
  have hcl' : zv.cells = l.toArray := by rw [← hcl]
  have hcap : n * siz (types P) E ≤ (ce0 (n * siz (types P) E)).cap := e2 ▸ e4
  have hpat := CR.pat (m := n * siz (types P) E) hzd (by omega) hcap
  rw [hlen] at hpat
  obtain ⟨cs', g1, g2, g3⟩ := e3 ρ a (.l z (siz (types P) E)) _ hT' hcap (by simp) hpat
  refine ⟨cs', .slice (some ⟨w.heap.size, 0, none⟩) n n, g2, g3, fun ρ' hp => by simp [den, hp], ?_⟩
  have hps : (ps.map fun (i, x) => (i, a.eval x)).toList = ps.toList.map fun p => (p.1, a.eval p.2) := by simp
  have hzc : (if n * i.size = 0 then (#[] : Array Value) else zv.cells) = if n * i.size = 0 then #[] else l.toArray := by rw [hcl']
  simp only [execOp, hop, Instr.buildSlice]
  have hle' : ¬ n * i.size > 2 ^ 24 := by rw [← hs]; omega
  simp only [Sem.run_bind, run_underlying (und_under hT).1, Result.andThen_ok, run_sizeOf P hi]
  rw [if_neg hle']
  by_cases h0 : n * i.size = 0
  · have hn : n = 0 := by
      rcases Nat.mul_eq_zero.1 h0 with h1 | h1
      · exact h1
      · rw [← hs] at h1; omega
    subst hn
    simp only [h0, if_true, Sem.run_bind, Sem.run_pure, Result.andThen_ok]
    have g1' : Instr.fill (fun j => some (j * i.size, i.size)) ((Array.range 0).map fun j => (#[] : Array Value)[j % (#[] : Array Value).size]!) (ps.map fun (i, x) => (i, a.eval x)).toList = some cs' := by
      rw [hps, ← g1, hs]
      congr 1
      simp
    rw [g1']
    simp [newRow]
  · rw [if_neg h0]
    have hzr : (zeroValue E).run P w = .ok zv w := by simp [zeroValue, typeInfo, hi, hzv]
    have g1' : Instr.fill (fun j => some (j * i.size, i.size)) ((Array.range (n * i.size)).map fun j => l.toArray[j % l.toArray.size]!) (ps.map fun (i, x) => (i, a.eval x)).toList = some cs' := by
      rw [hps, ← g1, hs]
    simp only [Sem.run_bind, hzr, Result.andThen_ok, Sem.run_pure, hcl']
    rw [g1']
    simp [newRow]
theorem early_mks {T E : Nat} {x y : Operand} {y1 y2 : OP} {l : List Value} {z : Z} (hop : o.op = .makeSlice T x y) (h1 : cOpd nt x = .mk y1) (h2 : cOpd nt y = .mk y2) (hT : und (types P) T = some (.slice E)) (hz : zOf (types P) E = some l) (hzz : zer l = some z) (hl : l.length = siz (types P) E) (hpos : 0 < siz (types P) E) : ESnd P nt (fMks d E (siz (types P) E) (byt (types P) E) z y1 y2) o d := by
  intro cal t h c df k v' h' c' e
  obtain ⟨k1, m, e1, e2⟩ := asN_fin e
  obtain ⟨k2, n, e3, e4⟩ := asN_fin e2
  obtain ⟨e5, e6⟩ := ifT_fin e4
  obtain ⟨e7, e8⟩ := ifT_fin e6
  obtain ⟨e9, e10⟩ := ifT_fin e8
  rw [fN_eq] at e10
  obtain ⟨e11, e12, e13⟩ := newC_fin e10
  refine ⟨_, _, e12, e13, _, _, _, _, rfl, e11, fun ρ w a hTR => ?_⟩
  obtain ⟨i, zv, hi, hzv, hcl⟩ := zOf_zero hz
  obtain ⟨ie, hie, hs, hb⟩ := siz_pos hpos
  rw [hi] at hie; cases hie
  have d1 := nat_den e1 (opd_den h1 hTR)
  have d2 := nat_den e3 (opd_den h2 hTR)
  have hmn : m ≤ n := Nat.le_of_ble_eq_true e5
  have hn : n ≤ 281474976710656 := Nat.le_of_ble_eq_true e7
  have hw : byt (types P) E * n ≤ 281474976710656 := Nat.le_of_ble_eq_true e9
  have hcap : n * siz (types P) E ≤ (ce0 (n * siz (types P) E)).cap := e11
  have hsz : zv.cells.size = siz (types P) E := by rw [← hl, ← hcl]; simp
  have hms : (madeCells zv.cells (n * siz (types P) E)).size = n * siz (types P) E := by simp [madeCells]
  refine ⟨madeCells zv.cells (n * siz (types P) E), .slice (some ⟨w.heap.size, 0, none⟩) m n, hms, ?_, fun ρ' hp => by simp [den, hp], ?_⟩
  · intro j hj
    have hj : j < n * siz (types P) E := hj
    obtain ⟨v, g1, g2⟩ := zer_pat hzz ρ j (by omega)
    refine ⟨v, ?_, ?_⟩
    · unfold madeCells
      have hjl : j % l.length < l.length := Nat.mod_lt _ (by omega)
      have hzl : zv.cells = l.toArray := by rw [← hcl]
      rw [hzl]
      simp [hj]
      rw [List.getElem?_eq_getElem hjl] at g1
      simpa [hjl] using g1
    · unfold cell
      rw [orD_u (cget_ce0 _ _ (by omega))]; exact g2
  · have hbytes : (i.bytes : Int) * (n : Int) ≤ 281474976710656 := by
      rw [← hb]
      have : ((byt (types P) E * n : Nat) : Int) ≤ 281474976710656 := by omega
      rwa [Int.natCast_mul] at this
    have hr := run_make (P := P) w T E i zv (und_under hT).1 hi hzv (kd k1) (kd k2) m n (by omega) (by omega) hbytes (by omega)
    simp only [Int.toNat_natCast] at hr
    rw [← hs] at hr
    simp only [execOp, hop, d1, d2]
    rw [Sem.run_bind, hr]; rfl
theorem esnd_bad {n : Nat} : ESnd P nt (badO n) o d := fun cal t h c df k v' h' c' e => (by cases e)
theorem cOp_early (he : isEarly o.op = true) {f : OC} (h : cOp P (types P) nt o = .mk f) : (∃ d, cDst nt o.dst = .mk d ∧ ESnd P nt f o d) ∨ f = badO 250 := by
  unfold cOp at h
  rcases bx_cases h with ⟨d, hd, h⟩ | rfl
  case inr => exact .inr rfl
  refine .inl ⟨d, hd, ?_⟩
  generalize hop : o.op = op at *
  cases op <;> simp only [isEarly, Bool.false_eq_true] at he <;> simp only at h
  case alloc t =>
    split at h
    · rename_i l hl
      split at h
      · rename_i z hz
        rcases bif_cases h with ⟨hb, h⟩ | ⟨_, h⟩
        · cases h; exact early_alloc hop hl hz (Nat.eq_of_beq_eq_true hb)
        · cases h; exact esnd_bad
      · cases h; exact esnd_bad
    · cases h; exact esnd_bad
  case box t x =>
    rcases bx_cases h with ⟨y, hy, h⟩ | rfl
    · cases h; exact early_box hop hy
    · exact esnd_bad
  case buildSlice t n ps =>
    split at h
    · rename_i e hT
      split at h
      · rename_i z hz
        obtain ⟨l, hz1, hz2⟩ := Option.bind_eq_some_iff.1 hz
        rcases bif_cases h with ⟨hb, h⟩ | ⟨_, h⟩
        · simp only [Bool.and_eq_true] at hb
          rcases bx_cases h with ⟨os, ho, h⟩ | rfl
          · cases h; exact early_bsl hop hT hz1 hz2 (Nat.eq_of_beq_eq_true hb.1.1) (by simpa using hb.1.2) (Nat.le_of_ble_eq_true hb.2) ho
          · exact esnd_bad
        · cases h; exact esnd_bad
      · cases h; exact esnd_bad
    · cases h; exact esnd_bad
  case makeSlice t x y =>
    rcases bx_cases h with ⟨y1, h1, h⟩ | rfl
    case inr => exact esnd_bad
    rcases bx_cases h with ⟨y2, h2, h⟩ | rfl
    case inr => exact esnd_bad
    split at h
    · rename_i e hT
      split at h
      · rename_i zl hz
        split at h
        · rename_i z hzz
          rcases bif_cases h with ⟨hb, h⟩ | ⟨_, h⟩
          · simp only [Bool.and_eq_true] at hb
            cases h; exact early_mks hop h1 h2 hT hz hzz (Nat.eq_of_beq_eq_true hb.2) (by simpa using hb.1)
          · cases h; exact esnd_bad
        · cases h; exact esnd_bad
      · cases h; exact esnd_bad
    · cases h; exact esnd_bad
end
end Ev
end
section
namespace Ev
open Go Go.RowKit
set_option linter.unusedVariables false
set_option linter.unusedSimpArgs false
theorem fBk_eq (b : Blk) (k : Blk → R) : fBk b k = k b := by cases b <;> rfl
theorem ifX_fin {b : Blk} {r : R} {v : V} {h : HP} {c : Nat} (e : ifX b r = .fin v h c) : b = .x ∧ r = .fin v h c := by cases b <;> first | exact ⟨rfl, e⟩ | cases e
theorem fL_list {β : Type} {l : List Nat} {q : List Nat → β} : fL l q = q l := fL_eq
section
variable {X : Spx} {P : Program} {nt : Nat} {ops : Array Oper}
/-- an operation's own temporaries from t, the others from t0 -/
def Own (ops : Array Oper) (i : Nat) (o : Oper) (t0 t t' : TM) : Prop := ∀ n, n < 256 → tg t' n = if n ∈ own ops i o then tg t n else tg t0 n
/-- what an anchored operation does -/
def AW (X : Spx) (P : Program) (nt : Nat) (ops : Array Oper) (o : Oper) (t : TM) (h : HP) (c : Nat) (t1 : TM) (h1 : HP) (c1 : Nat) : Prop := ∀ w0 ρ (a : Act) w r n Q K, HR X P w0 ρ h c w → TR ρ nt t a.tmps →
    (∀ ρ' (a' : Act) w', Le ρ ρ' → HR X P w0 ρ' h1 c1 w' → TR ρ' nt t1 a'.tmps → Kp h h1 c → c ≤ c1 → a'.defers = a.defers → K a' w') →
    if Region.wanted o (yielded ops a.tmps) = true then o.wpIn (Fr r) n P a w K Q else K (a.put o.dst undef) w
theorem tmp_ts {n : Nat} {d : DS} (h : cDst nt (some n) = .mk d) (v : V) (t : TM) (k : TM → R) : d v t k = k (ts t n v) := by
  obtain ⟨t1, h1, h2⟩ := dst_eq h v t k
  have : t1 = ts t n v := h1
  rw [h2, this]
/-- a light step -/
theorem cSt_light {i : Nat} {o : Oper} {s : SC} (hs : cSt P (types P) nt ops i = .mk s) (hi : ops[i]? = some o) (hl : isLight o.op = true) {t0 t : TM} {c0 : Nat} {cal : CAL} {h e : HP} {c : Nat} {df : List Nat} {k : TM → HP → HP → Nat → R} {v' : V} {h' : HP} {c' : Nat}
    (E : s t0 c0 cal t h e c df k = .fin v' h' c') : ∃ v t' t1, Own ops i o t0 t t' ∧ dT o.dst t v t1 ∧ (∀ n, o.dst = some n → n < nt ∧ n < 256) ∧ k t1 h e c = .fin v' h' c' ∧ FL X P nt ops o t' h c v := by
  unfold cSt at hs
  simp only [hi] at hs
  split at hs
  · rename_i lk f _ h1 h2
    split at hs
    · rename_i hd
      cases hs
      obtain ⟨t', e1, e2⟩ := mkT_ok h1 t0 t fun t' => f cal t' h c df fun _ h c _ => k t h e c
      have e3 : f cal t' h c df (fun _ h c _ => k t h e c) = .fin v' h' c' := by rw [← e1]; exact E
      obtain ⟨v, t1, g1, g2, g3, g4⟩ := cGO_light (X := X) hl h2 _ _ _ _ _ _ _ _ _ e3
      exact ⟨v, t', t, e2, by rw [hd]; rfl, g2, g3, g4⟩
    · rename_i n hd
      split at hs
      · rename_i x d h3 h4
        cases hs
        obtain ⟨t', e1, e2⟩ := mkT_ok h1 t0 t fun t' => f cal t' h c df fun t1 h c _ => d (x t1) t fun t => k t h e c
        have e3 : f cal t' h c df (fun t1 h c _ => d (x t1) t fun t => k t h e c) = .fin v' h' c' := by rw [← e1]; exact E
        obtain ⟨v, t1, g1, g2, g3, g4⟩ := cGO_light (X := X) hl h2 _ _ _ _ _ _ _ _ _ e3
        rw [hd] at g1
        have g1' : t1 = ts t' n v := g1
        rw [tmp_ts h4, (tmp_tg h3 t1).1, g1', tg_ts _ _ (tmp_tg h3 t1).2.2 (tmp_tg h3 t1).2.2, if_pos rfl] at g3
        exact ⟨v, t', ts t n v, e2, by rw [hd]; rfl, g2, g3, g4⟩
      · cases hs
  · cases hs
/-- a light step again: it yields the same -/
theorem cRe_light {i : Nat} {o : Oper} {s : SC} (hs : cRe P (types P) nt ops i = .mk s) (hi : ops[i]? = some o) (hl : isLight o.op = true) {t0 t : TM} {c0 : Nat} {cal : CAL} {h e : HP} {c : Nat} {df : List Nat} {k : TM → HP → HP → Nat → R} {v' : V} {h' : HP} {c' : Nat}
    (E : s t0 c0 cal t h e c df k = .fin v' h' c') : ∃ v t', Own ops i o t0 t t' ∧ (∀ n, o.dst = some n → n < nt ∧ n < 256 ∧ tg t n = v) ∧ k t h e c = .fin v' h' c' ∧ FL X P nt ops o t' h c v := by
  unfold cRe at hs
  simp only [hi] at hs
  split at hs
  · rename_i lk f h1 h2
    split at hs
    · rename_i hd
      cases hs
      obtain ⟨t', e1, e2⟩ := mkT_ok h1 t0 t fun t' => f cal t' h c df fun _ _ _ _ => k t h e c
      have e3 : f cal t' h c df (fun _ _ _ _ => k t h e c) = .fin v' h' c' := by rw [← e1]; exact E
      obtain ⟨v, t1, g1, g2, g3, g4⟩ := cGO_light (X := X) hl h2 _ _ _ _ _ _ _ _ _ e3
      exact ⟨v, t', e2, fun n hn => (by rw [hd] at hn; cases hn), g3, g4⟩
    · rename_i n hd
      split at hs
      · rename_i x h3
        cases hs
        obtain ⟨t', e1, e2⟩ := mkT_ok h1 t0 t fun t' => f cal t' h c df fun t1 _ _ _ => ifT (veq (x t1) (x t)) (k t h e c) (.bad 111)
        have e3 : f cal t' h c df (fun t1 _ _ _ => ifT (veq (x t1) (x t)) (k t h e c) (.bad 111)) = .fin v' h' c' := by rw [← e1]; exact E
        obtain ⟨v, t1, g1, g2, g3, g4⟩ := cGO_light (X := X) hl h2 _ _ _ _ _ _ _ _ _ e3
        obtain ⟨g5, g6⟩ := ifT_fin g3
        rw [hd] at g1
        have g1' : t1 = ts t' n v := g1
        have g7 := veq_eq g5
        rw [(tmp_tg h3 t1).1, (tmp_tg h3 t).1, g1', tg_ts _ _ (tmp_tg h3 t1).2.2 (tmp_tg h3 t1).2.2, if_pos rfl] at g7
        exact ⟨v, t', e2, fun m hm => by rw [hd] at hm; cases hm; exact ⟨(tmp_tg h3 t).2.1, (tmp_tg h3 t).2.2, g7.symm⟩, g6, g4⟩
      · cases hs
  · cases hs
/-- a guard that is on -/
theorem gd_ok {o : Oper} {gd : TM → R → R} (hg : gdOf nt ops o = .mk gd) {t : TM} {r : R} {v : V} {h : HP} {c : Nat} (E : gd t r = .fin v h c) :
    r = .fin v h c ∧ ∀ (ρ : Rho) (a : Act), TR ρ nt t a.tmps → Region.wanted o (yielded ops a.tmps) = true := by
  unfold gdOf at hg
  split at hg
  · rename_i hgo
    cases hg
    exact ⟨E, fun ρ a _ => by simp [Region.wanted, hgo]⟩
  · rename_i j w hgo
    split at hg
    · rename_i t0 ht0
      split at hg
      · rename_i g hgc
        cases hg
        have E1 : (asW (g t) (.bad 128) fun b => Bool.rec (motive := fun _ => R) (Bool.rec (motive := fun _ => R) r (.bad 128) w) (Bool.rec (motive := fun _ => R) (.bad 128) r w) b) = .fin v h c := E
        obtain ⟨b, hb, E2⟩ | ⟨_, E2⟩ := asW_fin E1
        · cases b <;> cases w
          · exact ⟨E2, fun ρ a hT => by rw [(guard_ok hgo ht0 hgc hT).1 _ hb]; rfl⟩
          · cases E2
          · cases E2
          · exact ⟨E2, fun ρ a hT => by rw [(guard_ok hgo ht0 hgc hT).1 _ hb]; rfl⟩
        · cases E2
      · cases hg
    · cases hg
/-- memory that is made -/
theorem cNw_early {i : Nat} {o : Oper} {s : SC} (hs : cNw P (types P) nt ops i = .mk s) (hi : ops[i]? = some o) (hl : isEarly o.op = true) {t0 t : TM} {c0 : Nat} {cal : CAL} {h e : HP} {c : Nat} {df : List Nat} {k : TM → HP → HP → Nat → R} {v' : V} {h' : HP} {c' : Nat}
    (E : s t0 c0 cal t h e c df k = .fin v' h' c') : ∃ v b t' n, Own ops i o t0 t t' ∧ o.dst = some n ∧ (n < nt ∧ n < 256) ∧ (∀ (ρ : Rho) (a : Act), TR ρ nt t' a.tmps → Region.wanted o (yielded ops a.tmps) = true) ∧ c0 + slot ops i ≤ 65535 ∧ hget h (c0 + slot ops i) = .x ∧ k (ts t n v) h (Ev.hs e (c0 + slot ops i) b) c = .fin v' h' c' ∧ ES P nt o t' (c0 + slot ops i) v b := by
  unfold cNw at hs
  simp only [hi] at hs
  split at hs
  · rename_i lk f n gd h1 h2 hd hg
    split at hs
    · rename_i x d h3 h4
      cases hs
      have E0 : (fN (c0 + slot ops i) fun id => ifX (hget h id) (mkT lk t0 t fun t' => gd t' <| f cal t' h id df fun t1 h1 _ _ => fBk (hget h1 id) fun b => hset b e id fun e => d (x t1) t fun t => k t h e c)) = .fin v' h' c' := E
      rw [fN_eq] at E0
      obtain ⟨hX, E0⟩ := ifX_fin E0
      obtain ⟨t', e1, e2⟩ := mkT_ok h1 t0 t fun t' => gd t' <| f cal t' h (c0 + slot ops i) df fun t1 h1 _ _ => fBk (hget h1 (c0 + slot ops i)) fun b => hset b e (c0 + slot ops i) fun e => d (x t1) t fun t => k t h e c
      rw [e1] at E0
      obtain ⟨E0, hw⟩ := gd_ok hg E0
      rcases cOp_early hl h2 with ⟨d', hd', hE⟩ | rfl
      case inr => cases E0
      obtain ⟨v, b, g1, g2, g3⟩ := hE _ _ _ _ _ _ _ _ _ E0
      rw [hd] at hd'
      rw [h4] at hd'
      cases hd'
      rw [tmp_ts h4, fBk_eq, hset_eq, tmp_ts h4, (tmp_tg h3 _).1, tg_ts _ _ (tmp_tg h3 t).2.2 (tmp_tg h3 t).2.2, if_pos rfl, hget_hs _ _ (by omega) (by omega), if_pos rfl] at g2
      exact ⟨v, b, t', n, e2, hd, (tmp_tg h3 t).2, hw, g1, hX, g2, g3⟩
    · cases hs
  · cases hs
/-- an anchored step -/
theorem cSt_anch {i : Nat} {o : Oper} {s : SC} (hs : cSt P (types P) nt ops i = .mk s) (hi : ops[i]? = some o) {t0 t : TM} {c0 : Nat} {cal : CAL} (hcal : CalOK X P cal) {h e : HP} {c : Nat} {df : List Nat} {k : TM → HP → HP → Nat → R} {v' : V} {h' : HP} {c' : Nat}
    (E : s t0 c0 cal t h e c df k = .fin v' h' c') : ∃ t' u1 h1 c1 t1, Own ops i o t0 t t' ∧ (∀ n, o.dst = some n → n < nt ∧ n < 256 ∧ tg t1 n = tg u1 n) ∧ (∀ n, n < 256 → o.dst ≠ some n → tg t1 n = tg t n) ∧ k t1 h1 e c1 = .fin v' h' c' ∧ okS o.op = true ∧ AW X P nt ops o t' h c u1 h1 c1 := by
  unfold cSt at hs
  simp only [hi] at hs
  split at hs
  · rename_i lk f hok h1 h2
    split at hs
    · rename_i hd
      cases hs
      obtain ⟨t', e1, e2⟩ := mkT_ok h1 t0 t fun t' => f cal t' h c df fun _ h c _ => k t h e c
      have e3 : f cal t' h c df (fun _ h c _ => k t h e c) = .fin v' h' c' := by rw [← e1]; exact E
      obtain ⟨t1, hh1, c1, g1, g2⟩ := cGO_ok (X := X) h2 cal hcal _ _ _ _ _ _ _ _ e3
      exact ⟨t', t1, hh1, c1, t, e2, fun n hn => (by rw [hd] at hn; cases hn), fun _ _ _ => rfl, g1, hok, g2⟩
    · rename_i n hd
      split at hs
      · rename_i x d h3 h4
        cases hs
        obtain ⟨t', e1, e2⟩ := mkT_ok h1 t0 t fun t' => f cal t' h c df fun t1 h c _ => d (x t1) t fun t => k t h e c
        have e3 : f cal t' h c df (fun t1 h c _ => d (x t1) t fun t => k t h e c) = .fin v' h' c' := by rw [← e1]; exact E
        obtain ⟨t1, hh1, c1, g1, g2⟩ := cGO_ok (X := X) h2 cal hcal _ _ _ _ _ _ _ _ e3
        rw [tmp_ts h4, (tmp_tg h3 t1).1] at g1
        refine ⟨t', t1, hh1, c1, _, e2, fun m hm => ?_, fun m hm hne => ?_, g1, hok, g2⟩
        · rw [hd] at hm; cases hm
          exact ⟨(tmp_tg h3 t).2.1, (tmp_tg h3 t).2.2, by rw [tg_ts _ _ (tmp_tg h3 t).2.2 (tmp_tg h3 t).2.2, if_pos rfl]⟩
        · rw [tg_ts _ _ (tmp_tg h3 t).2.2 hm, if_neg (by intro e; subst e; exact hne hd)]
      · cases hs
  · cases hs
end
end Ev
end
section
namespace Ev
open Go Go.RowKit
set_option linter.unusedVariables false
set_option linter.unusedSimpArgs false
theorem elm_iff {i : Nat} : ∀ {l : List Nat}, elm i l = true ↔ i ∈ l
  | [] => by simp [elm]
  | j :: l => by
    have ih := elm_iff (i := i) (l := l)
    unfold elm
    cases hb : Nat.beq i j with
    | true => simp [Nat.eq_of_beq_eq_true hb]
    | false => simp [ih, Nat.ne_of_beq_eq_false hb]
theorem elm_no {i : Nat} {l : List Nat} : elm i l = false ↔ i ∉ l := by
  rw [← elm_iff]; simp
theorem mem_ins {k i : Nat} {l : List Nat} : k ∈ ins i l ↔ k = i ∨ k ∈ l := by
  unfold ins
  cases hb : elm i l with
  | true =>
    simp only [cond_true]
    exact ⟨.inr, fun h => h.elim (fun e => e ▸ elm_iff.1 hb) id⟩
  | false => simp
theorem mem_uni {k : Nat} {b : List Nat} : ∀ {a : List Nat}, k ∈ uni a b ↔ k ∈ a ∨ k ∈ b
  | [] => by simp [uni]
  | j :: a => by
    have ih := mem_uni (k := k) (b := b) (a := a)
    show k ∈ ins j (uni a b) ↔ _
    rw [mem_ins, ih]; simp [or_assoc]
theorem mem_fold {k : Nat} {g : Nat → List Nat} : ∀ {l : List Nat}, k ∈ l.foldr (fun j s => ins j (uni (g j) s)) [] ↔ ∃ j ∈ l, k = j ∨ k ∈ g j
  | [] => by simp
  | i :: l => by
    have ih := mem_fold (k := k) (g := g) (l := l)
    rw [List.foldr_cons, mem_ins, mem_uni, ih]
    simp only [List.mem_cons, exists_eq_or_imp]
    rw [or_assoc]
section
variable {ops : Array Oper}
theorem mem_ixs {p : Nat → Bool} {i : Nat} : i ∈ ixs ops p ↔ i < ops.size ∧ p i = true := by simp [ixs]
theorem ixs_lt (p : Nat → Bool) : (ixs ops p).Pairwise (· < ·) := List.Pairwise.filter _ List.pairwise_lt_range
theorem pres_len : ∀ n, (pres ops n).length = n
  | 0 => rfl
  | n + 1 => by simp [pres, pres_len n]
theorem pres_get : ∀ {n i : Nat}, i < n → (pres ops n).getD i [] = (aft ops i).foldr (fun j s => ins j (uni ((pres ops i).getD j []) s)) []
  | n + 1, i, h => by
    show (pres ops n ++ [_]).getD i [] = _
    by_cases hi : i < n
    · rw [← pres_get hi]
      simp [List.getD, List.getElem?_append_left (show i < (pres ops n).length by rw [pres_len]; exact hi)]
    · have : i = n := by omega
      subst this
      simp [List.getD, pres_len]
theorem pres_mem {n i k : Nat} (hd : ∀ i, i < n → ∀ j ∈ aft ops i, j < i) (hi : i < n) : k ∈ (pres ops n).getD i [] ↔ ∃ j ∈ aft ops i, k = j ∨ k ∈ (pres ops n).getD j [] := by
  rw [pres_get hi, mem_fold]
  have key : ∀ j ∈ aft ops i, (pres ops i).getD j [] = (pres ops n).getD j [] := fun j hj => by
    have hji := hd i hi j hj
    rw [pres_get hji, pres_get (show j < n by omega)]
  constructor
  · rintro ⟨j, hj, h⟩; exact ⟨j, hj, h.imp id fun h => by rw [← key j hj]; exact h⟩
  · rintro ⟨j, hj, h⟩; exact ⟨j, hj, h.imp id fun h => by rw [key j hj]; exact h⟩
theorem pres_trans {n : Nat} (hd : ∀ i, i < n → ∀ j ∈ aft ops i, j < i) : ∀ {i j k : Nat}, i < n → j ∈ (pres ops n).getD i [] → k ∈ (pres ops n).getD j [] → k ∈ (pres ops n).getD i [] := by
  intro i
  induction i using Nat.strongRecOn with
  | _ i ih =>
    intro j k hi hj hk
    obtain ⟨m, hm, h⟩ := (pres_mem hd hi).1 hj
    have hmi := hd i hi m hm
    rcases h with rfl | h
    · exact (pres_mem hd hi).2 ⟨j, hm, .inr hk⟩
    · exact (pres_mem hd hi).2 ⟨m, hm, .inr (ih m hmi (by omega) h hk)⟩
/-- what must have come up has -/
theorem pres_sub {n : Nat} (hd : ∀ i, i < n → ∀ j ∈ aft ops i, j < i) {L : Array Bool} (hL : Down ops L) : ∀ {i k : Nat}, i < n → (∀ j ∈ aft ops i, L.getD j false = true) → k ∈ (pres ops n).getD i [] → L.getD k false = true := by
  intro i
  induction i using Nat.strongRecOn with
  | _ i ih =>
    intro k hi ha hk
    obtain ⟨m, hm, h⟩ := (pres_mem hd hi).1 hk
    have hmi := hd i hi m hm
    rcases h with rfl | h
    · exact ha _ hm
    · exact ih m hmi (by omega) (fun j hj => hL m (ha m hm) j hj) h
/-- what is known of a region's operations -/
structure Chk (ops : Array Oper) : Prop where
  down : ∀ i, i < ops.size → ∀ j ∈ aft ops i, j < i
  dd : ∀ (i j : Nat) (oi oj : Oper) (n : Nat), ops[i]? = some oi → ops[j]? = some oj → oi.dst = some n → oj.dst = some n → i = j
  lk : ∀ (i j : Nat) (oi oj : Oper) (n : Nat), ops[i]? = some oi → ops[j]? = some oj → oj.dst = some n → n ∈ oi.looksAt ops → i = j ∨ j ∈ aft ops i ∨ i ∈ (pres ops ops.size).getD j []
theorem fRw_eq {β : Type} {r : Row} {q : Row → β} : fRw r q = q r := by
  cases r with
  | mk i d l a p =>
    show (fN i fun i => fL d fun d => fL l fun l => fL a fun a => fL p fun p => q (.mk i d l a p)) = _
    rw [fN_eq, fL_eq, fL_eq, fL_eq, fL_eq]
theorem fRs_eq {β : Type} : ∀ {l : List Row} {q : List Row → β}, fRs l q = q l
  | [], _ => rfl
  | r :: l, q => by
    show fRw r (fun r => fRs l fun l => q (r :: l)) = _
    rw [fRw_eq, fRs_eq]
theorem fLL_eq {β : Type} : ∀ {l : List (List Nat)} {q : List (List Nat) → β}, fLL l q = q l
  | [], _ => rfl
  | r :: l, q => by
    show fL r (fun r => fLL l fun l => q (r :: l)) = _
    rw [fL_eq, fLL_eq]
theorem size_of {i : Nat} {o : Oper} (h : ops[i]? = some o) : i < ops.size := (Array.getElem?_eq_some_iff.1 h).1
theorem chk_ok (h : chk ((List.range ops.size).map (rowOf ops (pres ops ops.size))) = true) : Chk ops := by
  unfold chk at h
  rw [List.all_eq_true] at h
  have hrow : ∀ (i : Nat) (o : Oper), ops[i]? = some o → rowOf ops (pres ops ops.size) i = .mk i o.dst.toList (looks ops o) (aft ops i) ((pres ops ops.size).getD i []) := fun i o ho => by
    unfold rowOf; rw [ho]
  have hmem : ∀ i, i < ops.size → rowOf ops (pres ops ops.size) i ∈ (List.range ops.size).map (rowOf ops (pres ops ops.size)) := fun i hi => List.mem_map.2 ⟨i, by simpa using hi, rfl⟩
  have hD : ∀ i, i < ops.size → ∀ j ∈ aft ops i, j < i := fun i hi j hj => by
    have h1 := h _ (hmem i hi)
    simp only [Bool.and_eq_true] at h1
    rw [hrow i ops[i] (Array.getElem?_eq_getElem hi)] at h1
    have h2 := h1.1
    unfold okD at h2
    rw [List.all_eq_true] at h2
    exact Nat.blt_eq ▸ h2 j hj
  have hP : ∀ (i j : Nat) (oi oj : Oper) (n : Nat), ops[i]? = some oi → ops[j]? = some oj → oj.dst = some n → i = j ∨ (oi.dst ≠ some n ∧ (n ∉ looks ops oi ∨ j ∈ aft ops i ∨ i ∈ (pres ops ops.size).getD j [])) := fun i j oi oj n hi hj hn => by
    have h1 := h _ (hmem i (size_of hi))
    simp only [Bool.and_eq_true] at h1
    have h2 := h1.2
    rw [List.all_eq_true] at h2
    have h3 := h2 _ (hmem j (size_of hj))
    rw [hrow i oi hi, hrow j oj hj] at h3
    unfold okP at h3
    rw [List.all_eq_true] at h3
    have h4 := h3 n (by rw [hn]; simp)
    simp only [Bool.or_eq_true, Bool.and_eq_true, Bool.not_eq_true', elm_iff, elm_no] at h4
    rcases h4 with h4 | ⟨h4, h5⟩
    · exact .inl (Nat.eq_of_beq_eq_true h4)
    · refine .inr ⟨fun e => h4 (by rw [e]; simp), ?_⟩
      rcases h5 with (h5 | h5) | h5
      · exact .inl h5
      · exact .inr (.inl h5)
      · exact .inr (.inr h5)
  refine ⟨hD, fun i j oi oj n hi hj hni hnj => ?_, fun i j oi oj n hi hj hn hl => ?_⟩
  · rcases hP i j oi oj n hi hj hnj with h1 | ⟨h1, _⟩
    · exact h1
    · exact absurd hni h1
  · rcases hP i j oi oj n hi hj hn with h1 | ⟨_, h1⟩
    · exact .inl h1
    · rcases h1 with h1 | h1
      · exact absurd hl h1
      · exact .inr h1
theorem slot_succ (i : Nat) : slot ops (i + 1) = slot ops i + if erl ops i = true then 1 else 0 := by
  unfold slot
  rw [List.range_succ, List.filter_append, List.length_append]
  cases h : erl ops i <;> simp [h]
theorem slot_mono {i j : Nat} (h : i ≤ j) : slot ops i ≤ slot ops j := by
  induction j with
  | zero => have : i = 0 := by omega
            subst this; exact Nat.le_refl _
  | succ j ih =>
    by_cases hj : i = j + 1
    · subst hj; exact Nat.le_refl _
    · have := ih (by omega)
      rw [slot_succ]; omega
theorem slot_lt {i j : Nat} (h : i < j) (he : erl ops i = true) : slot ops i < slot ops j := by
  have h1 := slot_mono (ops := ops) (show i + 1 ≤ j by omega)
  rw [slot_succ, if_pos he] at h1; omega
theorem slot_inj {i j : Nat} (hi : erl ops i = true) (hj : erl ops j = true) (h : slot ops i = slot ops j) : i = j := by
  rcases Nat.lt_trichotomy i j with h1 | h1 | h1
  · have := slot_lt h1 hi; omega
  · exact h1
  · have := slot_lt h1 hj; omega
theorem own_mem {i n : Nat} {o : Oper} (h : n ∈ own ops i o) : ∃ m ∈ aft ops i, ∃ om, ops[m]? = some om ∧ om.dst = some n := by
  unfold own at h
  rw [List.mem_filter, List.mem_filterMap] at h
  obtain ⟨⟨m, hm, hd⟩, _⟩ := h
  cases ho : ops[m]? with
  | none => rw [ho] at hd; cases hd
  | some om => rw [ho] at hd; exact ⟨m, hm, om, ho, hd⟩
theorem own_iff {i n : Nat} {o : Oper} : n ∈ own ops i o ↔ (∃ m ∈ aft ops i, ∃ om, ops[m]? = some om ∧ om.dst = some n) ∧ n ∈ looks ops o := by
  constructor
  · intro h
    refine ⟨own_mem h, ?_⟩
    unfold own at h
    exact elm_iff.1 (List.mem_filter.1 h).2
  · rintro ⟨⟨m, hm, om, ho, hd⟩, hl⟩
    unfold own
    rw [List.mem_filter, List.mem_filterMap]
    exact ⟨⟨m, hm, by rw [ho]; exact hd⟩, elm_iff.2 hl⟩
theorem nonA_cases {i : Nat} {o : Oper} (ho : ops[i]? = some o) (h : nonA ops i = true) : (lgt ops i = true ∧ isLight o.op = true) ∨ (lgt ops i = false ∧ isEarly o.op = true ∧ erl ops i = true) := by
  unfold nonA lgt erl at *
  rw [ho] at *
  simp only [Bool.or_eq_true] at *
  cases hl : isLight o.op with
  | true => exact .inl ⟨rfl, rfl⟩
  | false => rw [hl] at h; exact .inr ⟨rfl, by simpa using h, by simpa using h⟩
theorem light_early {op : Op} (h : isLight op = true) : isEarly op = false := by cases op <;> first | rfl | cases h
section
variable (X : Spx) (P : Program) (nt : Nat) (ops : Array Oper) (t0 : TM) (c0 : Nat)
/-- what is known of an operation that has been reckoned -/
def SF (i : Nat) (o : Oper) (t : TM) (h e : HP) (c : Nat) : Prop :=
  (isLight o.op = true → ∃ t' v, Own ops i o t0 t t' ∧ (∀ n, o.dst = some n → n < nt ∧ n < 256 ∧ tg t n = v) ∧ FL X P nt ops o t' h c v) ∧
  (isEarly o.op = true → ∃ t' v n, Own ops i o t0 t t' ∧ o.dst = some n ∧ (n < nt ∧ n < 256) ∧ tg t n = v ∧ (∀ (ρ : Rho) (a : Act), TR ρ nt t' a.tmps → Region.wanted o (yielded ops a.tmps) = true) ∧ c0 + slot ops i ≤ 65535 ∧ hget h (c0 + slot ops i) = .x ∧ ES P nt o t' (c0 + slot ops i) v (hget e (c0 + slot ops i)))
end
section
variable {X : Spx} {P : Program} {nt : Nat} {t0 : TM} {c0 : Nat}
theorem Own.to {i : Nat} {o : Oper} {t t1 t' : TM} (H : Own ops i o t0 t t') (h : ∀ n, n < 256 → n ∈ own ops i o → tg t1 n = tg t n) : Own ops i o t0 t1 t' := fun n hn => by
  rw [H n hn]
  split
  · rename_i hin; rw [h n hn hin]
  · rfl
/-- operations reckoned in their order -/
theorem all_stp (hC : Chk ops) {cal : CAL} {h : HP} {c : Nat} {df : List Nat} {k : TM → HP → HP → Nat → R} {v' : V} {h' : HP} {c' : Nat} : ∀ (L : List Nat) (s : SC) (t : TM) (e : HP), L.Pairwise (· < ·) → (∀ i ∈ L, nonA ops i = true ∧ i < ops.size) →
    cAll (stp P (types P) nt ops) L = .mk s → s t0 c0 cal t h e c df k = .fin v' h' c' →
    ∃ t2 e2, k t2 h e2 c = .fin v' h' c' ∧ (∀ i ∈ L, ∀ o, ops[i]? = some o → SF X P nt ops t0 c0 i o t2 h e2 c) ∧ (∀ n, n < 256 → (∀ i ∈ L, ∀ o, ops[i]? = some o → o.dst ≠ some n) → tg t2 n = tg t n) ∧
      (∀ j, j ≤ 65535 → (∀ i ∈ L, erl ops i = true → j ≠ c0 + slot ops i) → hget e2 j = hget e j)
  | [], s, t, e, _, _, hs, E => by
    cases hs
    exact ⟨t, e, E, fun i hi => (by cases hi), fun _ _ _ => rfl, fun _ _ _ => rfl⟩
  | i :: L, s, t, e, hp, hn, hs, E => by
    unfold cAll at hs
    split at hs
    · rename_i a b h1 h2
      cases hs
      obtain ⟨hp1, hp2⟩ := List.pairwise_cons.1 hp
      obtain ⟨hni, hil⟩ := hn i (by simp)
      have hiL : ∀ j ∈ L, i < j := hp1
      have ho : ops[i]? = some ops[i] := Array.getElem?_eq_getElem hil
      have E1 : a t0 c0 cal t h e c df (fun t h e c => b t0 c0 cal t h e c df k) = .fin v' h' c' := E
      -- what stays from here on
      have own_old : ∀ n, n ∈ own ops i ops[i] → ∀ j ∈ i :: L, ∀ oj, ops[j]? = some oj → oj.dst ≠ some n := fun n hn' j hj oj hoj hd => by
        obtain ⟨m, hm, om, hom, hdm⟩ := own_mem hn'
        have e1 := hC.dd _ _ _ _ _ hoj hom hd hdm
        have := hC.down i hil m hm
        rcases List.mem_cons.1 hj with rfl | hj
        · omega
        · have := hiL j hj; omega
      have dst_old : ∀ n, ops[i].dst = some n → ∀ j ∈ L, ∀ oj, ops[j]? = some oj → oj.dst ≠ some n := fun n hn' j hj oj hoj hd => by
        have e1 := hC.dd _ _ _ _ _ hoj ho hd hn'
        have := hiL j hj; omega
      unfold stp at h1
      rcases nonA_cases ho hni with ⟨hl, hL⟩ | ⟨hl, hE, hEr⟩
      · rw [hl] at h1
        obtain ⟨v, t', t1, g1, g2, g3, g4, g5⟩ := cSt_light (X := X) h1 ho hL E1
        obtain ⟨t2, e2, k1, k2, k3, k4⟩ := all_stp hC L b t1 e hp2 (fun j hj => hn j (List.mem_cons_of_mem _ hj)) h2 g4
        have ht1 : ∀ n, n < 256 → ops[i].dst ≠ some n → tg t1 n = tg t n := fun n hn' hd => by
          cases hdst : ops[i].dst with
          | none => rw [hdst] at g2; have : t1 = t := g2; rw [this]
          | some m =>
            rw [hdst] at g2 hd
            have : t1 = ts t m v := g2
            rw [this, tg_ts _ _ (g3 m hdst).2 hn', if_neg (fun e => hd (by rw [e]))]
        refine ⟨t2, e2, k1, fun j hj o hoj => ?_, fun n hn' hd => ?_, fun j hj hd => k4 j hj fun i' hi' => hd i' (List.mem_cons_of_mem _ hi')⟩
        · rcases List.mem_cons.1 hj with rfl | hj
          · rw [ho] at hoj; cases hoj
            refine ⟨fun _ => ⟨t', v, g1.to fun n hn' hin => ?_, fun n hd => ⟨(g3 n hd).1, (g3 n hd).2, ?_⟩, g5⟩, fun he => by rw [light_early hL] at he; cases he⟩
            · rw [k3 n hn' fun j' hj' oj' hoj' => own_old n hin j' (List.mem_cons_of_mem _ hj') oj' hoj', ht1 n hn' (own_old n hin _ (by simp) _ ho)]
            · rw [k3 n (g3 n hd).2 (dst_old n hd)]
              rw [hd] at g2
              have : t1 = ts t n v := g2
              rw [this, tg_ts _ _ (g3 n hd).2 (g3 n hd).2, if_pos rfl]
          · exact k2 j hj o hoj
        · rw [k3 n hn' fun j hj => hd j (List.mem_cons_of_mem _ hj), ht1 n hn' (hd i (by simp) _ ho)]
      · rw [hl] at h1
        obtain ⟨v, b', t', n0, g1, g2, g3, g4, g5, gx, g6, g7⟩ := cNw_early h1 ho hE E1
        obtain ⟨t2, e2, k1, k2, k3, k4⟩ := all_stp hC L b _ _ hp2 (fun j hj => hn j (List.mem_cons_of_mem _ hj)) h2 g6
        have hslot : ∀ j ∈ L, erl ops j = true → c0 + slot ops i ≠ c0 + slot ops j := fun j hj hjr e => by
          have := slot_lt (hiL j hj) hEr; omega
        refine ⟨t2, e2, k1, fun j hj o hoj => ?_, fun n hn' hd => ?_, fun j hj hd => ?_⟩
        · rcases List.mem_cons.1 hj with rfl | hj
          · rw [ho] at hoj; cases hoj
            refine ⟨fun hh => (by rw [light_early hh] at hE; cases hE), fun _ => ⟨t', v, n0, g1.to fun n hn' hin => ?_, g2, g3, ?_, g4, g5, gx, ?_⟩⟩
            · rw [k3 n hn' fun j' hj' oj' hoj' => own_old n hin j' (List.mem_cons_of_mem _ hj') oj' hoj', tg_ts _ _ g3.2 hn', if_neg fun e => own_old n hin _ (by simp) _ ho (by rw [e]; exact g2)]
            · rw [k3 n0 g3.2 (dst_old n0 g2), tg_ts _ _ g3.2 g3.2, if_pos rfl]
            · rw [k4 _ g5 hslot, hget_hs _ _ (by omega) (by omega), if_pos rfl]; exact g7
          · exact k2 j hj o hoj
        · rw [k3 n hn' fun j hj => hd j (List.mem_cons_of_mem _ hj), tg_ts _ _ g3.2 hn', if_neg fun e => hd i (by simp) _ ho (by rw [e]; exact g2)]
        · rw [k4 j hj fun i' hi' => hd i' (List.mem_cons_of_mem _ hi'), hget_hs _ _ (by omega) (by omega), if_neg (hd i (by simp) hEr)]
    · cases hs
/-- what is known of an operation that is reckoned again -/
def RF (X : Spx) (P : Program) (nt : Nat) (ops : Array Oper) (t0 : TM) (c0 i : Nat) (o : Oper) (t : TM) (h : HP) (c : Nat) : Prop :=
  (isLight o.op = true → ∃ t' v, Own ops i o t0 t t' ∧ (∀ n, o.dst = some n → n < nt ∧ n < 256 ∧ tg t n = v) ∧ FL X P nt ops o t' h c v) ∧
  (isEarly o.op = true → hget h (c0 + slot ops i) = .x)
theorem all_rec {cal : CAL} {t : TM} {h e : HP} {c : Nat} {df : List Nat} {k : TM → HP → HP → Nat → R} {v' : V} {h' : HP} {c' : Nat} : ∀ (L : List Nat) (s : SC), (∀ i ∈ L, nonA ops i = true ∧ i < ops.size) →
    cAll (rec' P (types P) nt ops) L = .mk s → s t0 c0 cal t h e c df k = .fin v' h' c' → k t h e c = .fin v' h' c' ∧ ∀ i ∈ L, ∀ o, ops[i]? = some o → RF X P nt ops t0 c0 i o t h c
  | [], s, _, hs, E => by cases hs; exact ⟨E, fun i hi => (by cases hi)⟩
  | i :: L, s, hn, hs, E => by
    unfold cAll at hs
    split at hs
    · rename_i a b h1 h2
      cases hs
      obtain ⟨hni, hil⟩ := hn i (by simp)
      have ho : ops[i]? = some ops[i] := Array.getElem?_eq_getElem hil
      have E1 : a t0 c0 cal t h e c df (fun t h e c => b t0 c0 cal t h e c df k) = .fin v' h' c' := E
      unfold rec' at h1
      rcases nonA_cases ho hni with ⟨hl, hL⟩ | ⟨hl, hE, hEr⟩
      · rw [hl] at h1
        obtain ⟨v, t', g1, g2, g3, g4⟩ := cRe_light (X := X) h1 ho hL E1
        obtain ⟨k1, k2⟩ := all_rec L b (fun j hj => hn j (List.mem_cons_of_mem _ hj)) h2 g3
        refine ⟨k1, fun j hj o hoj => ?_⟩
        rcases List.mem_cons.1 hj with rfl | hj
        · rw [ho] at hoj; cases hoj
          exact ⟨fun _ => ⟨t', v, g1, g2, g4⟩, fun he => by rw [light_early hL] at he; cases he⟩
        · exact k2 j hj o hoj
      · rw [hl] at h1
        cases h1
        obtain ⟨g1, g2⟩ := ifX_fin (show ifX (hget h (c0 + slot ops i)) (b t0 c0 cal t h e c df k) = .fin v' h' c' from E1)
        obtain ⟨k1, k2⟩ := all_rec L b (fun j hj => hn j (List.mem_cons_of_mem _ hj)) h2 g2
        refine ⟨k1, fun j hj o hoj => ?_⟩
        rcases List.mem_cons.1 hj with rfl | hj
        · rw [ho] at hoj; cases hoj
          exact ⟨fun hh => (by rw [light_early hh] at hE; cases hE), fun _ => g1⟩
        · exact k2 j hj o hoj
    · cases hs
/-- blocks that are taken in -/
def Adp (ops : Array Oper) (c0 : Nat) (e : HP) : List Nat → HP → HP → Prop
  | [], h, hf => hf = h
  | i :: L, h, hf => hget h (c0 + slot ops i) = .x ∧ Adp ops c0 e L (Ev.hs h (c0 + slot ops i) (hget e (c0 + slot ops i))) hf
theorem all_stA {cal : CAL} {t : TM} {e : HP} {c : Nat} {df : List Nat} {k : TM → HP → HP → Nat → R} {v' : V} {h' : HP} {c' : Nat} : ∀ (L : List Nat) (s : SC) (h : HP),
    cAll (stA ops) L = .mk s → s t0 c0 cal t h e c df k = .fin v' h' c' → ∃ hf, Adp ops c0 e L h hf ∧ k t hf e c = .fin v' h' c'
  | [], s, h, hs, E => by cases hs; exact ⟨h, rfl, E⟩
  | i :: L, s, h, hs, E => by
    unfold cAll at hs
    split at hs
    · rename_i a b h1 h2
      cases hs
      cases h1
      have E1 : (fN (c0 + slot ops i) fun id => ifX (hget h id) (fBk (hget e id) fun bl => hset bl h id fun h => b t0 c0 cal t h e c df k)) = .fin v' h' c' := E
      rw [fN_eq] at E1
      obtain ⟨g1, g2⟩ := ifX_fin E1
      rw [fBk_eq, hset_eq] at g2
      obtain ⟨hf, k1, k2⟩ := all_stA L b _ h2 g2
      exact ⟨hf, ⟨g1, k1⟩, k2⟩
    · cases hs
end
end
end Ev
end
section
namespace Ev
open Go Go.RowKit
set_option linter.unusedVariables false
set_option linter.unusedSimpArgs false
section
variable (X : Spx) (P : Program) (nt : Nat) (ops : Array Oper) (t0 : TM) (c0 : Nat)
abbrev Pr (ops : Array Oper) (i : Nat) : List Nat := (pres ops ops.size).getD i []
/-- how far those behind no one of l are new -/
def New (ops : Array Oper) (l : List Nat) (a i : Nat) : Bool := nonA ops i && rdB (pres ops ops.size) l i && !rdB (pres ops ops.size) (a :: l) i
def Pk (l p : List Nat) (t : TM) (h e : HP) (c : Nat) : Prop := ∀ i o, ops[i]? = some o → nonA ops i = true → rdB (pres ops ops.size) l i = true → i ∉ p → SF X P nt ops t0 c0 i o t h e c
def Rest : List Nat → List Nat → TM → HP → HP → Nat → (TM → HP → Nat → Prop) → Prop
  | [], ad, t, h, e, c, F => ∃ hf, Adp ops c0 e (ixs ops fun i => erl ops i && !elm i ad) h hf ∧ F t hf c
  | a :: l, ad, t, h, e, c, F => ∃ o hA t' u1 h1 c1 t2 e2, ops[a]? = some o ∧ Adp ops c0 e (ixs ops fun i => erl ops i && elm i (Pr ops a) && !elm i ad) h hA ∧ Own ops a o t0 t t' ∧ (okS o.op = true ∧ AW X P nt ops o t' hA c u1 h1 c1) ∧
     (∀ n, o.dst = some n → n < nt ∧ n < 256 ∧ tg t2 n = tg u1 n) ∧
     (∀ n, n < 256 → o.dst ≠ some n → (∀ i o', ops[i]? = some o' → o'.dst = some n → New ops l a i = false) → tg t2 n = tg t n) ∧
     (∀ i, erl ops i = true → c0 + slot ops i ≤ 65535 → New ops l a i = false → hget e2 (c0 + slot ops i) = hget e (c0 + slot ops i)) ∧
     Pk X P nt ops t0 c0 l (Pr ops a) t2 h1 e2 c1 ∧ Rest l (Pr ops a) t2 h1 e2 c1 F
end
section
variable {X : Spx} {P : Program} {nt : Nat} {ops : Array Oper} {t0 : TM} {c0 : Nat}
theorem rdB_iff {pr : List (List Nat)} {l : List Nat} {i : Nat} : rdB pr l i = true ↔ ∀ a ∈ l, a ∉ pr.getD i [] := by
  unfold rdB
  rw [List.all_eq_true]
  exact ⟨fun h a ha hin => (by have := h a ha; rw [elm_iff.2 hin] at this; cases this), fun h a ha => by rw [elm_no.2 (h a ha)]; rfl⟩
theorem rdB_tail {pr : List (List Nat)} {a : Nat} {l : List Nat} {i : Nat} (h : rdB pr (a :: l) i = true) : rdB pr l i = true := rdB_iff.2 fun b hb => rdB_iff.1 h b (List.mem_cons_of_mem _ hb)
theorem chain_iff {pr : List (List Nat)} {a : Nat} {l : List Nat} : chain pr (a :: l) = true ↔ (∀ b ∈ l, a ∈ pr.getD b []) ∧ chain pr l = true := by
  show ((l.all fun b => elm a (pr.getD b [])) && chain pr l) = true ↔ _
  rw [Bool.and_eq_true, List.all_eq_true]
  simp only [elm_iff]
theorem aft_pres (hC : Chk ops) {i m : Nat} (hi : i < ops.size) (hm : m ∈ aft ops i) : m ∈ Pr ops i := (pres_mem hC.down hi).2 ⟨m, hm, .inl rfl⟩
/-- what an old one's own temporaries are written by is old -/
theorem old_aft (hC : Chk ops) {a i m : Nat} {l : List Nat} (hi : i < ops.size) (h : rdB (pres ops ops.size) (a :: l) i = true) (hm : m ∈ aft ops i) : m ≠ a ∧ New ops l a m = false := by
  have hr := rdB_iff.1 h
  have hmi := aft_pres hC hi hm
  refine ⟨fun e => hr a (by simp) (e ▸ hmi), ?_⟩
  have : rdB (pres ops ops.size) (a :: l) m = true := rdB_iff.2 fun b hb hin => hr b hb (pres_trans hC.down hi hmi hin)
  simp [New, this]
theorem sqB_mk {a b : Bx SC} {s : SC} (h : sqB a b = .mk s) : ∃ x y, a = .mk x ∧ b = .mk y ∧ s = sqS x y := by
  unfold sqB at h
  split at h
  · cases h; exact ⟨_, _, rfl, rfl, rfl⟩
  · cases h
theorem segs_rest (hC : Chk ops) {cal : CAL} (hcal : CalOK X P cal) {df : List Nat} {k : TM → HP → HP → Nat → R} {v' : V} {h' : HP} {c' : Nat} : ∀ (l ad : List Nat) (s : SC) (t : TM) (h e : HP) (c : Nat), segs P (types P) nt ops (pres ops ops.size) l ad = .mk s →
    chain (pres ops ops.size) l = true → (∀ x ∈ ad, ∀ a ∈ l, x ∈ Pr ops a) → (∀ a ∈ l, a < ops.size ∧ nonA ops a = false) → Pk X P nt ops t0 c0 l ad t h e c → s t0 c0 cal t h e c df k = .fin v' h' c' →
    Rest X P nt ops t0 c0 l ad t h e c fun t h c => ∃ e, k t h e c = .fin v' h' c'
  | [], ad, s, t, h, e, c, hs, _, _, _, _, E => by
    obtain ⟨hf, h1, h2⟩ := all_stA _ _ _ hs E
    exact ⟨hf, h1, e, h2⟩
  | a :: l, ad, s, t, h, e, c, hs, hch, had, han, hPk, E => by
    unfold segs at hs
    obtain ⟨s1, r1, h1, hs1, rfl⟩ := sqB_mk hs
    obtain ⟨s2, r2, h2, hs2, rfl⟩ := sqB_mk hs1
    obtain ⟨s3, r3, h3, hs3, rfl⟩ := sqB_mk hs2
    obtain ⟨s4, r4, h4, h5, rfl⟩ := sqB_mk hs3
    obtain ⟨hal, haA⟩ := han a (by simp)
    have ho : ops[a]? = some ops[a] := Array.getElem?_eq_getElem hal
    obtain ⟨hA, g1, E1⟩ := all_stA _ _ _ h1 E
    obtain ⟨t', u1, hh1, c1, t1, g2, g3, g4, E2, gok, g5⟩ := cSt_anch (X := X) h2 ho hcal E1
    obtain ⟨E3, g6⟩ := all_rec (X := X) _ _ (fun i hi => by
      obtain ⟨q1, q2⟩ := mem_ixs.1 hi
      simp only [Bool.and_eq_true] at q2
      exact ⟨q2.1.1, q1⟩) h3 E2
    obtain ⟨t2, e2, E4, g7, g8, g9⟩ := all_stp (X := X) hC _ _ _ _ (ixs_lt _) (fun i hi => by
      obtain ⟨q1, q2⟩ := mem_ixs.1 hi
      simp only [Bool.and_eq_true] at q2
      exact ⟨q2.1.1, q1⟩) h4 E3
    obtain ⟨hc1, hc2⟩ := chain_iff.1 hch
    have hnew : ∀ i, i < ops.size → New ops l a i = true → i ∈ ixs ops fun i => nonA ops i && rdB (pres ops ops.size) l i && !rdB (pres ops ops.size) (a :: l) i := fun i hi hn => mem_ixs.2 ⟨hi, hn⟩
    have hold : ∀ i, i ∈ (ixs ops fun i => nonA ops i && rdB (pres ops ops.size) l i && !rdB (pres ops ops.size) (a :: l) i) → New ops l a i = true := fun i hi => (mem_ixs.1 hi).2
    -- an old temporary's value
    have hstay : ∀ n, n < 256 → (∀ i o', ops[i]? = some o' → o'.dst = some n → New ops l a i = false) → tg t2 n = tg t1 n := fun n hn hh => g8 n hn fun i hi o hoi hd => by
      have := hh i o hoi hd
      rw [hold i hi] at this; cases this
    have hown : ∀ i o n, ops[i]? = some o → rdB (pres ops ops.size) (a :: l) i = true → n ∈ own ops i o → ops[a].dst ≠ some n ∧ ∀ i' o', ops[i']? = some o' → o'.dst = some n → New ops l a i' = false := fun i o n hoi hr hin => by
      obtain ⟨m, hm, om, hom, hdm⟩ := own_mem hin
      obtain ⟨q1, q2⟩ := old_aft hC (size_of hoi) hr hm
      exact ⟨fun hd => q1 (hC.dd _ _ _ _ _ hom ho hdm hd), fun i' o' ho' hd' => by rw [hC.dd _ _ _ _ _ ho' hom hd' hdm]; exact q2⟩
    have hdst : ∀ i o n, ops[i]? = some o → nonA ops i = true → rdB (pres ops ops.size) (a :: l) i = true → o.dst = some n → ops[a].dst ≠ some n ∧ ∀ i' o', ops[i']? = some o' → o'.dst = some n → New ops l a i' = false := fun i o n hoi hni hr hd => by
      refine ⟨fun hd2 => ?_, fun i' o' ho' hd' => ?_⟩
      · have := hC.dd _ _ _ _ _ hoi ho hd hd2
        subst this
        rw [haA] at hni; cases hni
      · rw [hC.dd _ _ _ _ _ ho' hoi hd' hd]; simp [New, hr]
    refine ⟨ops[a], hA, t', u1, hh1, c1, t2, e2, ho, g1, g2, ⟨gok, g5⟩, fun n hd => ?_, fun n hn hd hh => ?_, fun i hi hle hN => ?_, ?_, ?_⟩
    · obtain ⟨q1, q2, q3⟩ := g3 n hd
      refine ⟨q1, q2, ?_⟩
      rw [hstay n q2 fun i o' ho' hd' => ?_, q3]
      have := hC.dd _ _ _ _ _ ho' ho hd' hd
      subst this
      simp [New, haA]
    · rw [hstay n hn hh, g4 n hn hd]
    · refine g9 _ hle fun i' hi' her e => ?_
      have := slot_inj hi her (by omega)
      subst this
      rw [hold i hi'] at hN; cases hN
    all_goals
      have hPk2 : Pk X P nt ops t0 c0 l (Pr ops a) t2 hh1 e2 c1 := by
        intro i o hoi hni hr hip
        cases hr2 : rdB (pres ops ops.size) (a :: l) i with
        | false => exact g7 i (hnew i (size_of hoi) (by simp [New, hni, hr, hr2])) o hoi
        | true =>
          have hRF := g6 i (mem_ixs.2 ⟨size_of hoi, by have hq : elm i ((pres ops ops.size).getD a []) = false := elm_no.2 hip; rw [hq, hni, hr2]; rfl⟩) o hoi
          refine ⟨fun hl => ?_, fun he => ?_⟩
          · obtain ⟨tt, v, q1, q2, q3⟩ := hRF.1 hl
            refine ⟨tt, v, q1.to fun n hn hin => hstay n hn (hown i o n hoi hr2 hin).2, fun n hd => ?_, q3⟩
            obtain ⟨q4, q5, q6⟩ := q2 n hd
            exact ⟨q4, q5, by rw [hstay n q5 (hdst i o n hoi hni hr2 hd).2]; exact q6⟩
          · have hia : i ∉ ad := fun hin => hip (had i hin a (by simp))
            obtain ⟨tt, v, n, q1, q2, q3, q4, q5, q6, q7, q8⟩ := (hPk i o hoi hni hr2 hia).2 he
            have hto : ∀ n, n < 256 → ops[a].dst ≠ some n → (∀ i' o', ops[i']? = some o' → o'.dst = some n → New ops l a i' = false) → tg t2 n = tg t n := fun n hn hd hh => by rw [hstay n hn hh, g4 n hn hd]
            refine ⟨tt, v, n, q1.to fun n hn hin => hto n hn (hown i o n hoi hr2 hin).1 (hown i o n hoi hr2 hin).2, q2, q3, ?_, q5, q6, hRF.2 he, ?_⟩
            · rw [hto n q3.2 (hdst i o n hoi hni hr2 q2).1 (hdst i o n hoi hni hr2 q2).2]; exact q4
            · have her : erl ops i = true := by unfold erl; rw [hoi]; exact he
              rw [g9 _ q6 fun i' hi' her' e => ?_]
              · exact q8
              · have := slot_inj her her' (by omega)
                subst this
                have := hold i hi'
                simp [New, hr2] at this
    · exact hPk2
    · refine segs_rest hC hcal l (Pr ops a) _ t2 hh1 e2 c1 h5 hc2 (fun x hx b hb => pres_trans hC.down (han b (List.mem_cons_of_mem _ hb)).1 (hc1 b hb) hx) (fun b hb => han b (List.mem_cons_of_mem _ hb)) hPk2 E4
/-- where it ends -/
theorem rest_fix {F : TM → HP → Nat → Prop} : ∀ {l ad : List Nat} {t : TM} {h e : HP} {c : Nat}, Rest X P nt ops t0 c0 l ad t h e c F → ∃ t1 h1 c1, F t1 h1 c1 ∧ Rest X P nt ops t0 c0 l ad t h e c fun t h c => t = t1 ∧ h = h1 ∧ c = c1
  | [], ad, t, h, e, c, ⟨hf, h1, h2⟩ => ⟨t, hf, c, h2, hf, h1, rfl, rfl, rfl⟩
  | a :: l, ad, t, h, e, c, ⟨o, hA, t', u1, h1, c1, t2, e2, q1, q2, q3, q4, q5, q6, q7, q8, q9⟩ => by
    obtain ⟨tf, hf, cf, k1, k2⟩ := rest_fix q9
    exact ⟨tf, hf, cf, k1, o, hA, t', u1, h1, c1, t2, e2, q1, q2, q3, q4, q5, q6, q7, q8, k2⟩
end
end Ev
end
section
namespace Ev
open Go Go.RowKit
set_option linter.unusedVariables false
set_option linter.unusedSimpArgs false
section
variable {X : Spx} {P : Program} {nt : Nat} {ops : Array Oper} {t0 : TM} {c0 : Nat} {L : Array Bool} {a a0 : Act} {ρ ρ' : Rho} {t t2 : TM}
/-- what the listed ones have yielded -/
def Vals (ops : Array Oper) (L : Array Bool) (a : Act) (ρ : Rho) (t : TM) : Prop := ∀ j oj n, ops[j]? = some oj → oj.dst = some n → L.getD j false = true → n < 256 → ∃ x, a.tmps[n]? = some x ∧ den ρ (tg t n) = some x
/-- what no listed one writes is as it was -/
def Rst (ops : Array Oper) (L : Array Bool) (a a0 : Act) : Prop := ∀ n, (∀ j oj, ops[j]? = some oj → oj.dst = some n → L.getD j false = false) → a.tmps[n]? = a0.tmps[n]?
theorem put_ne {d : Option Nat} {n : Nat} {x : Value} (h : d ≠ some n) : (a.put d x).tmps[n]? = a.tmps[n]? := by
  cases d with
  | none => rfl
  | some m => exact Array.getElem?_setIfInBounds_ne (fun e => h (by rw [e]))
theorem put_eq {n : Nat} {x : Value} (h : n < a.tmps.size) : (a.put (some n) x).tmps[n]? = some x := Array.getElem?_setIfInBounds_self_of_lt h
theorem put_size {d : Option Nat} {x : Value} : (a.put d x).tmps.size = a.tmps.size := by
  cases d with
  | none => rfl
  | some m => exact Array.size_setIfInBounds
theorem put_defers {d : Option Nat} {x : Value} : (a.put d x).defers = a.defers := by cases d <;> rfl
theorem set_ne {i j : Nat} (h : j ≠ i) : (L.setIfInBounds i true).getD j false = L.getD j false := by
  rw [Array.getD_eq_getD_getElem?, Array.getD_eq_getD_getElem?, Array.getElem?_setIfInBounds_ne (Ne.symm h)]
theorem set_self {i : Nat} (h : i < L.size) : (L.setIfInBounds i true).getD i false = true := by rw [getD_set h, if_pos rfl]
theorem set_true {i j : Nat} (hi : i < L.size) (h : L.getD j false = true) : (L.setIfInBounds i true).getD j false = true := by
  rw [getD_set hi]; split; rfl; exact h
theorem vals_put (hC : Chk ops) {i : Nat} {o : Oper} {x : Value} (hi : ops[i]? = some o) (hz : i < L.size) (V : Vals ops L a ρ t) (hle : Le ρ ρ') (hst : ∀ j oj n, ops[j]? = some oj → oj.dst = some n → L.getD j false = true → n < 256 → j ≠ i → tg t2 n = tg t n)
    (hn : ∀ n, o.dst = some n → n < a.tmps.size ∧ den ρ' (tg t2 n) = some x) : Vals ops (L.setIfInBounds i true) (a.put o.dst x) ρ' t2 := by
  intro j oj n hj hd hL hlt
  by_cases hji : j = i
  · subst hji
    rw [hi] at hj; cases hj
    rw [hd]
    exact ⟨x, put_eq (hn n hd).1, (hn n hd).2⟩
  · rw [set_ne hji] at hL
    obtain ⟨y, h1, h2⟩ := V j oj n hj hd hL hlt
    refine ⟨y, ?_, by rw [hst j oj n hj hd hL hlt hji]; exact den_mono hle _ h2⟩
    rw [put_ne (fun e => hji (hC.dd _ _ _ _ _ hj hi hd e))]; exact h1
theorem rst_put {i : Nat} {o : Oper} {x : Value} (hi : ops[i]? = some o) (hz : i < L.size) (R : Rst ops L a a0) : Rst ops (L.setIfInBounds i true) (a.put o.dst x) a0 := by
  intro n hn
  rw [put_ne fun e => ?_]
  · refine R n fun j oj hj hd => ?_
    have := hn j oj hj hd
    by_cases hji : j = i
    · subst hji; rw [set_self hz] at this; cases this
    · rw [set_ne hji] at this; exact this
  · have := hn i o hi e
    rw [set_self hz] at this; cases this
theorem lay_tr {ρ0 : Rho} {i : Nat} {o : Oper} {t' : TM} (hT0 : TR ρ0 nt t0 a0.tmps) (hle : Le ρ0 ρ) (hz : a.tmps.size = a0.tmps.size) (V : Vals ops L a ρ t) (haft : ∀ j ∈ aft ops i, L.getD j false = true) (H : Own ops i o t0 t t') : TR ρ nt t' (lay a0 a (own ops i o)).tmps := by
  refine ⟨by rw [lay_size]; exact hT0.1, fun n h1 h2 => ?_⟩
  rw [lay_get a0 a hz, H n h2]
  by_cases hin : n ∈ own ops i o
  · rw [if_pos hin, if_pos hin]
    obtain ⟨m, hm, om, hom, hd⟩ := own_mem hin
    exact V m om n hom hd (haft m hm) h2
  · rw [if_neg hin, if_neg hin]
    obtain ⟨v, g1, g2⟩ := hT0.2 n h1 h2
    exact ⟨v, g1, den_mono hle _ g2⟩
theorem lay_agrees (hC : Chk ops) {i : Nat} {o : Oper} (hi : ops[i]? = some o) (hz : a.tmps.size = a0.tmps.size) (R : Rst ops L a a0) (hD : Down ops L) (hLi : L.getD i false = false) : Agrees ops o a (lay a0 a (own ops i o)) := by
  intro n hn
  rw [lay_get a0 a hz]
  by_cases hin : n ∈ own ops i o
  · rw [if_pos hin]
  · rw [if_neg hin]
    refine R n fun j oj hj hd => ?_
    cases hL : L.getD j false with
    | false => rfl
    | true =>
      exfalso
      rcases hC.lk i j o oj n hi hj hd hn with rfl | h | h
      · rw [hLi] at hL; cases hL
      · exact hin (own_iff.2 ⟨⟨j, h, oj, hj, hd⟩, hn⟩)
      · rw [pres_sub hC.down hD (size_of hj) (fun k hk => hD j hL k hk) h] at hLi; cases hLi
/-- blocks taken in -/
theorem adopt_all {w : World} {e : HP} {c : Nat} : ∀ (S : List Nat) (h hf : HP) (B : Base), Adp ops c0 e S h hf → S.Nodup →
    (∀ i ∈ S, ∃ p ty n z u, ρ (c0 + slot ops i) = some p ∧ B.out p.1 ∧ hget e (c0 + slot ops i) = .c ty n 0 z u ∧ BR X P ρ (c0 + slot ops i) w (hget e (c0 + slot ops i))) →
    (∀ i ∈ S, ∀ j ∈ S, i ≠ j → ∀ p q, ρ (c0 + slot ops i) = some p → ρ (c0 + slot ops j) = some q → p.1 ≠ q.1) → HR X P B ρ h c w →
    ∃ B' : Base, HR X P B' ρ hf c w ∧ B'.w = w ∧ (∀ k, B.no k → B'.no k) ∧ (∀ k, B'.out k ↔ B.out k ∧ ∀ i ∈ S, ∀ p, ρ (c0 + slot ops i) = some p → k ≠ p.1) ∧ Kp h hf c
  | [], h, hf, B, hA, _, _, _, H => by
    cases hA
    refine ⟨⟨w, B.out, fun k hk => Nat.lt_of_lt_of_le (B.lt k hk) H.bel.size, B.no⟩, H.base ⟨rfl, rfl, rfl, Nat.le_refl _, fun _ _ => rfl⟩ (fun k p hk hx => (H.dom k p hk).2.1 hx) H.noc (fun k a A h1 h2 => (H.one k a A h1 h2).1), rfl, fun _ hk => hk, fun k => by simp, Kp.refl _ _⟩
  | i :: S, h, hf, B, ⟨hx, hA⟩, hnd, hE, hU, H => by
    obtain ⟨hni, hnS⟩ := List.nodup_cons.1 hnd
    obtain ⟨p, ty, n, z, u, g1, g2, g3, g4⟩ := hE i (by simp)
    have H1 := H.adopt (b' := ⟨w, fun k => B.out k ∧ k ≠ p.1, fun k hk => Nat.lt_of_lt_of_le (B.lt k hk.1) H.bel.size, B.no⟩) g1 hx g2 (fun s hh => by rw [g3] at hh; cases hh) g4 ⟨rfl, rfl, rfl, Nat.le_refl _, fun _ _ => rfl⟩ (fun k hk => hk) fun k hk => hk
    obtain ⟨B', k1, k2, k3, k4, k5⟩ := adopt_all S _ hf _ hA hnS (fun j hj => by
      obtain ⟨q, ty', n', z', u', r1, r2, r3, r4⟩ := hE j (List.mem_cons_of_mem _ hj)
      exact ⟨q, ty', n', z', u', r1, ⟨r2, hU j (List.mem_cons_of_mem _ hj) i (by simp) (fun e => hni (e ▸ hj)) q p r1 g1⟩, r3, r4⟩) (fun j hj j' hj' => hU j (List.mem_cons_of_mem _ hj) j' (List.mem_cons_of_mem _ hj')) H1
    have hlt := (H.dom _ _ g1).1
    have hle := H.le
    refine ⟨B', k1, k2, k3, fun k => ?_, Kp.trans (Kp.hs hle (by omega) fun _ hh => by rw [hx] at hh; cases hh) k5 (Nat.le_refl _)⟩
    rw [k4 k]
    constructor
    · rintro ⟨⟨q1, q2⟩, q3⟩
      refine ⟨q1, fun j hj q hq => ?_⟩
      rcases List.mem_cons.1 hj with rfl | hj
      · rw [g1] at hq; cases hq; exact q2
      · exact q3 j hj q hq
    · rintro ⟨q1, q2⟩
      exact ⟨⟨q1, q2 i (by simp) p g1⟩, fun j hj => q2 j (List.mem_cons_of_mem _ hj)⟩
end
section
variable (X : Spx) (P : Program) (nt : Nat) (ops : Array Oper) (t0 : TM) (c0 : Nat) (an : List Nat) (b : Base) (ρ0 : Rho) (h00 : HP) (c00 : Nat) (a0 : Act) (F : TM → HP → Nat → Prop)
/-- what stands between two operations -/
structure IS (l ad done : List Nat) (t : TM) (h e : HP) (c : Nat) (ρ : Rho) (B : Base) (L : Array Bool) (a : Act) (w : World) : Prop where
  rest : Rest X P nt ops t0 c0 l ad t h e c F
  pk : Pk X P nt ops t0 c0 l ad t h e c
  ch : chain (pres ops ops.size) l = true
  ha : ∀ x ∈ ad, ∀ y ∈ l, x ∈ Pr ops y
  an : an = done ++ l
  dn : ∀ x ∈ done, L.getD x false = true
  nl : ∀ x ∈ l, L.getD x false = false
  al : ∀ x ∈ ad, L.getD x false = true
  hr : HR X P B ρ h c w
  bb : Bel b B.w
  bo : ∀ k, b.out k → B.out k
  bn : ∀ k, b.no k → B.no k
  le : Le ρ0 ρ
  kp : Kp h00 h c00
  cl : c00 ≤ c
  df : a.defers = a0.defers
  sz : a.tmps.size = a0.tmps.size
  va : Vals ops L a ρ t
  rs : Rst ops L a a0
  kt : ∀ n, n < 256 → (∀ (i : Nat) (o : Oper), ops[i]? = some o → o.dst ≠ some n) → tg t n = tg t0 n
  en : ∀ i, i < ops.size → erl ops i = true → L.getD i false = false → B.no (c0 + slot ops i)
  ey : ∀ i, i < ops.size → erl ops i = true → L.getD i false = true → i ∉ ad → ∃ p ty n z u, ρ (c0 + slot ops i) = some p ∧ B.out p.1 ∧ ¬ b.out p.1 ∧ hget e (c0 + slot ops i) = .c ty n 0 z u ∧ BR X P ρ (c0 + slot ops i) w (hget e (c0 + slot ops i))
  ed : ∀ i j p q, erl ops i = true → erl ops j = true → L.getD i false = true → L.getD j false = true → i ∉ ad → j ∉ ad → i < ops.size → j < ops.size → i ≠ j → ρ (c0 + slot ops i) = some p → ρ (c0 + slot ops j) = some q → p.1 ≠ q.1
end
section
variable {X : Spx} {P : Program} {nt : Nat} {ops : Array Oper} {t0 : TM} {c0 : Nat} {an : List Nat} {b : Base} {ρ0 : Rho} {h00 : HP} {c00 : Nat} {a0 : Act} {F : TM → HP → Nat → Prop}
theorem is_step (hC : Chk ops) (hT0 : TR ρ0 nt t0 a0.tmps) (hbn : ∀ k, b.no k → k < c0) (han : ∀ x, x ∈ an ↔ x < ops.size ∧ nonA ops x = false) (hnd : an.Nodup)
    {l ad done : List Nat} {t : TM} {h e : HP} {c : Nat} {ρ : Rho} {B : Base} {L : Array Bool} {a : Act} {w : World} (S : IS X P nt ops t0 c0 an b ρ0 h00 c00 a0 F l ad done t h e c ρ B L a w) (hs : L.size = ops.size) (hD : Down ops L) {i : Nat} (hi : i ∈ Region.ready .any ops L) {r : Option Nat} {n : Nat} {Q : Exit → Act → World → Prop} :
    wpOpIn (Fr r) n P ops Q i (fun a' w' => ∃ l ad done t h e c ρ B, IS X P nt ops t0 c0 an b ρ0 h00 c00 a0 F l ad done t h e c ρ B (L.setIfInBounds i true) a' w') a w := by
  obtain ⟨r1, r2, r3⟩ := ready_aft hi
  have hLi : L.getD i false = false := by
    rw [Array.getD_eq_getD_getElem?] at r2 ⊢
    rw [Array.getElem?_eq_getElem (by omega)] at r2 ⊢
    simpa using r2
  have hiL : i < L.size := by omega
  have ho : ops[i]? = some ops[i] := Array.getElem?_eq_getElem r1
  generalize hoi : ops[i] = o at ho
  have hpre : ∀ k ∈ Pr ops i, L.getD k false = true := fun k hk => pres_sub hC.down hD r1 r3 hk
  have hrd : rdB (pres ops ops.size) l i = true := rdB_iff.2 fun x hx hin => by have := S.nl x hx; rw [hpre x hin] at this; cases this
  have hia : i ∉ ad := fun hh => by rw [S.al i hh] at hLi; cases hLi
  have hAg := lay_agrees hC ho S.sz S.rs hD hLi
  have hTR : ∀ t', Own ops i o t0 t t' → TR ρ nt t' (lay a0 a (own ops i o)).tmps := fun t' H => lay_tr hT0 S.le S.sz S.va r3 H
  have hsz : nt ≤ a.tmps.size := by rw [S.sz]; exact hT0.1
  have hbw : Bel b w := S.bb.chain S.bo S.hr.bel
  have dn' : ∀ x ∈ done, (L.setIfInBounds i true).getD x false = true := fun x hx => set_true hiL (S.dn x hx)
  have al' : ∀ x ∈ ad, (L.setIfInBounds i true).getD x false = true := fun x hx => set_true hiL (S.al x hx)
  have no' : ∀ j, (L.setIfInBounds i true).getD j false = false → j ≠ i ∧ L.getD j false = false := fun j hj => by
    by_cases hji : j = i
    · subst hji; rw [set_self hiL] at hj; cases hj
    · rw [set_ne hji] at hj; exact ⟨hji, hj⟩
  have yes' : ∀ j, (L.setIfInBounds i true).getD j false = true → j ≠ i → L.getD j false = true := fun j hj hji => by rw [set_ne hji] at hj; exact hj
  cases hn : nonA ops i with
  | true =>
    have hSF := S.pk i o ho hn hrd hia
    have nl' : ∀ x ∈ l, (L.setIfInBounds i true).getD x false = false := fun x hx => by
      have hx2 := ((han x).1 (by rw [S.an]; exact List.mem_append_right _ hx)).2
      rw [set_ne fun e => by subst e; rw [hn] at hx2; cases hx2]; exact S.nl x hx
    rcases nonA_cases ho hn with ⟨hl, hL⟩ | ⟨hl, hE, hEr⟩
    · obtain ⟨t', v, g1, g2, g3⟩ := hSF.1 hL
      have hne : ∀ j, erl ops j = true → j ≠ i := fun j hj e => by
        subst e
        unfold erl at hj
        rw [ho] at hj
        have : isEarly o.op = true := hj
        rw [light_early hL] at this; cases this
      refine g3.go ho hL S.hr (hTR t' g1) hAg fun x hx => ⟨l, ad, done, t, h, e, c, ρ, B, ⟨S.rest, S.pk, S.ch, S.ha, S.an, dn', nl', al', S.hr, S.bb, S.bo, S.bn, S.le, S.kp, S.cl, by rw [put_defers]; exact S.df, by rw [put_size]; exact S.sz, ?_, rst_put ho hiL S.rs, S.kt, ?_, ?_, ?_⟩⟩
      · refine vals_put hC ho hiL S.va (Le.refl _) (fun _ _ _ _ _ _ _ _ => rfl) fun m hm => ?_
        obtain ⟨q1, q2, q3⟩ := g2 m hm
        exact ⟨Nat.lt_of_lt_of_le q1 hsz, by rw [q3]; exact hx⟩
      · exact fun j hj her hjL => S.en j hj her (no' j hjL).2
      · exact fun j hj her hjL hja => S.ey j hj her (yes' j hjL (hne j her)) hja
      · exact fun j j' p q her her' hjL hjL' hja hja' hj hj' hjj => S.ed j j' p q her her' (yes' j hjL (hne j her)) (yes' j' hjL' (hne j' her')) hja hja' hj hj' hjj
    · obtain ⟨t', v, m, g1, g2, g3, g4, g5, g6, g7, g8⟩ := hSF.2 hE
      obtain ⟨ty, n', z, u, q1, q2, q3⟩ := g8
      obtain ⟨cs, x, k1, k2, k3, k4⟩ := q3 ρ w _ (hTR t' g1)
      have hno := S.en i r1 hEr hLi
      obtain ⟨hic, hin⟩ := S.hr.noc _ hno
      obtain ⟨H2, hle⟩ := S.hr.early hic g7 hin (.cells cs ty) 0 (by have := S.hr.bel.size; simp; omega) (by simp)
      have hns : (∀ cs b, o.op ≠ .select cs b) ∧ ∀ c, o.op ≠ .defer c := ⟨fun _ _ hh => (by rw [hh] at hE; cases hE), fun _ hh => (by rw [hh] at hE; cases hE)⟩
      unfold wpOpIn
      simp only [ho]
      rw [if_pos (by rw [hAg.wanted]; exact g5 ρ _ (hTR t' g1))]
      refine ⟨fun _ _ => trivial, ?_⟩
      rw [Oper.semAt_eq _ _ _ hns.2, hAg.exec hns.1, k4]
      have hwk : ∀ k, k < w.heap.size → (w.alloc (.cells cs ty)).heap[k]? = w.heap[k]? := fun k hk => Below.heap_alloc w _ k hk
      refine ⟨l, ad, done, t, h, e, c, _, _, ⟨S.rest, S.pk, S.ch, S.ha, S.an, dn', nl', al', H2, hbw.alloc _, fun k hk => .inl (S.bo k hk), fun k hk => ⟨S.bn k hk, fun e => by have := hbn k hk; omega⟩, S.le.trans hle, S.kp, S.cl, by rw [put_defers]; exact S.df, by rw [put_size]; exact S.sz, ?_, rst_put ho hiL S.rs, S.kt, ?_, ?_, ?_⟩⟩
      · refine vals_put hC ho hiL S.va hle (fun _ _ _ _ _ _ _ _ => rfl) fun m' hm => ?_
        rw [g2] at hm; cases hm
        exact ⟨Nat.lt_of_lt_of_le g3.1 hsz, by rw [g4]; exact k3 _ (up_self _ _ _)⟩
      · intro j hj her hjL
        refine ⟨S.en j hj her (no' j hjL).2, fun e => (no' j hjL).1 (slot_inj her hEr (by omega))⟩
      · intro j hj her hjL hja
        by_cases hji : j = i
        · subst hji
          refine ⟨(w.heap.size, 0), ty, n', z, u, up_self _ _ _, .inr rfl, fun hh => ?_, q1, ?_⟩
          · have := b.lt _ hh
            have := hbw.size
            simp only at *; omega
          · rw [q1]
            exact ⟨(w.heap.size, 0), cs, up_self _ _ _, by rw [World.alloc]; simp, q2, by omega, fun _ => k1, fun hh => absurd rfl hh, k2.mono hle⟩
        · obtain ⟨p, ty', n'', z', u', s1, s2, s3, s4, s5⟩ := S.ey j hj her (yes' j hjL hji) hja
          refine ⟨p, ty', n'', z', u', hle _ _ s1, .inl s2, s3, s4, s5.mono hle (fun p' hp' => hwk _ (S.hr.dom _ _ hp').2.2) fun a' p' ha' => ?_⟩
          rw [s4] at ha'; cases ha'
      · intro j j' p q her her' hjL hjL' hja hja' hj hj' hjj hp hq
        have old : ∀ j p, erl ops j = true → j ≠ i → up ρ (c0 + slot ops i) (w.heap.size, 0) (c0 + slot ops j) = some p → ρ (c0 + slot ops j) = some p := fun j p her hji hp => by
          unfold up at hp
          rw [if_neg fun e => hji (slot_inj her hEr (by omega))] at hp
          exact hp
        by_cases hji : j = i
        · subst hji
          rw [up_self] at hp; cases hp
          have := (S.hr.dom _ _ (old j' q her' (fun e => hjj e.symm) hq)).2.2
          simp only; omega
        · by_cases hji' : j' = i
          · subst hji'
            rw [up_self] at hq; cases hq
            have := (S.hr.dom _ _ (old j p her hji hp)).2.2
            simp only; omega
          · exact S.ed j j' p q her her' (yes' j hjL hji) (yes' j' hjL' hji') hja hja' hj hj' hjj (old j p her hji hp) (old j' q her' hji' hq)
  | false =>
    have hil : i ∈ l := by
      have := (han i).2 ⟨r1, hn⟩
      rw [S.an] at this
      rcases List.mem_append.1 this with h1 | h1
      · rw [S.dn i h1] at hLi; cases hLi
      · exact h1
    cases l with
    | nil => cases hil
    | cons x l =>
      obtain ⟨hc1, hc2⟩ := chain_iff.1 S.ch
      have hxi : i = x := by
        rcases List.mem_cons.1 hil with h1 | h1
        · exact h1
        · have := S.nl x (by simp)
          rw [hpre x (hc1 i h1)] at this; cases this
      subst hxi
      obtain ⟨o', hA, t', u1, h1, c1, t2, e2, q1, q2, q3, ⟨hok, q4⟩, q5, q6, q7, q8, q9⟩ := S.rest
      rw [ho] at q1; cases q1
      have hner : erl ops i = false := by
        unfold nonA at hn; simp only [Bool.or_eq_false_iff] at hn; exact hn.2
      -- the listed ones are old
      have hnew : ∀ j, L.getD j false = true → j < ops.size → New ops l i j = false := fun j hj hjs => by
        have : rdB (pres ops ops.size) (i :: l) j = true := rdB_iff.2 fun y hy hin => by
          have := S.nl y hy
          rw [pres_sub hC.down hD hjs (fun k hk => hD j hj k hk) hin] at this; cases this
        simp [New, this]
      have hmemS : ∀ j, j ∈ (ixs ops fun j => erl ops j && elm j (Pr ops i) && !elm j ad) → j < ops.size ∧ erl ops j = true ∧ j ∈ Pr ops i ∧ j ∉ ad := fun j hj => by
        obtain ⟨s1, s2⟩ := mem_ixs.1 hj
        simp only [Bool.and_eq_true, Bool.not_eq_true', elm_iff, elm_no] at s2
        exact ⟨s1, s2.1.1, s2.1.2, s2.2⟩
      obtain ⟨B', k1, k2, k3, k4, k5⟩ := adopt_all _ _ _ _ q2 ((ixs_lt _).imp fun h => Nat.ne_of_lt h) (fun j hj => by
        obtain ⟨s1, s2, s3, s4⟩ := hmemS j hj
        obtain ⟨p, ty, n', z, u, z1, z2, z3, z4, z5⟩ := S.ey j s1 s2 (hpre j s3) s4
        exact ⟨p, ty, n', z, u, z1, z2, z4, z5⟩) (fun j hj j' hj' hjj p q hp hq => by
        obtain ⟨s1, s2, s3, s4⟩ := hmemS j hj
        obtain ⟨y1, y2, y3, y4⟩ := hmemS j' hj'
        exact S.ed j j' p q s2 y2 (hpre j s3) (hpre j' y3) s4 y4 s1 y1 hjj hp hq) S.hr
      have main : ∀ v w', (∃ ρ', Le ρ ρ' ∧ HR X P B' ρ' h1 c1 w' ∧ TR ρ' nt u1 ((lay a0 a (own ops i o)).put o.dst v).tmps ∧ Kp hA h1 c ∧ c ≤ c1) →
          ∃ l ad done t h e c ρ B, IS X P nt ops t0 c0 an b ρ0 h00 c00 a0 F l ad done t h e c ρ B (L.setIfInBounds i true) (a.put o.dst v) w' := by
        rintro v w' ⟨ρ', l1, l2, l3, l4, l5⟩
        have hnd2 : (i :: l).Nodup := by rw [S.an] at hnd; exact (List.nodup_append.1 hnd).2.1
        refine ⟨l, Pr ops i, done ++ [i], t2, h1, e2, c1, ρ', B', ⟨q9, q8, hc2, fun y hy y' hy' => pres_trans hC.down ((han y').1 (by rw [S.an]; simp [hy'])).1 (hc1 y' hy') hy, by rw [S.an]; simp, fun y hy => ?_, fun y hy => ?_, fun y hy => set_true hiL (hpre y hy), l2, by rw [k2]; exact hbw, fun k hk => ?_, fun k hk => k3 k (S.bn k hk), S.le.trans l1, (S.kp.trans k5 S.cl).trans l4 S.cl, Nat.le_trans S.cl l5, by rw [put_defers]; exact S.df, by rw [put_size]; exact S.sz, ?_, rst_put ho hiL S.rs, ?_, ?_, ?_, ?_⟩⟩
        · rcases List.mem_append.1 hy with hy | hy
          · exact dn' y hy
          · simp only [List.mem_singleton] at hy; subst hy; exact set_self hiL
        · rw [set_ne fun e => (List.nodup_cons.1 hnd2).1 (by rw [← e]; exact hy)]
          exact S.nl y (List.mem_cons_of_mem _ hy)
        · refine (k4 k).2 ⟨S.bo k hk, fun j hj p hp e => ?_⟩
          obtain ⟨s1, s2, s3, s4⟩ := hmemS j hj
          obtain ⟨p', ty, n', z, u, z1, z2, z3, z4, z5⟩ := S.ey j s1 s2 (hpre j s3) s4
          rw [hp] at z1; cases z1
          exact z3 (e ▸ hk)
        · refine vals_put hC ho hiL S.va l1 (fun j oj m hj hd hjL hm hji => q6 m hm (fun e => hji (hC.dd _ _ _ _ _ hj ho hd e)) fun i' o' hi' hd' => ?_) fun m hm => ?_
          · rw [hC.dd _ _ _ _ _ hi' hj hd' hd]; exact hnew j hjL (size_of hj)
          · obtain ⟨s1, s2, s3⟩ := q5 m hm
            refine ⟨Nat.lt_of_lt_of_le s1 hsz, ?_⟩
            obtain ⟨y, y1, y2⟩ := l3.2 m s1 s2
            rw [hm, put_eq (by rw [lay_size]; exact Nat.lt_of_lt_of_le s1 hT0.1)] at y1
            cases y1
            rw [s3]; exact y2
        · intro m hm hh
          rw [q6 m hm (hh i o ho) fun i' o' hi' hd' => absurd hd' (hh i' o' hi')]
          exact S.kt m hm hh
        · exact fun j hj her hjL => k3 _ (S.en j hj her (no' j hjL).2)
        · intro j hj her hjL hja
          have hji : j ≠ i := fun e => by subst e; rw [hner] at her; cases her
          have hjo := yes' j hjL hji
          have hjad : j ∉ ad := fun hh => hja (S.ha j hh i (by simp))
          obtain ⟨p, ty, n', z, u, z1, z2, z3, z4, z5⟩ := S.ey j hj her hjo hjad
          have hlt := (S.hr.dom _ _ z1).1
          have hle := S.hr.le
          have he2 := q7 j her (by omega) (hnew j hjo hj)
          have hout : B'.out p.1 := (k4 _).2 ⟨z2, fun j' hj' q hq => by
            obtain ⟨s1, s2, s3, s4⟩ := hmemS j' hj'
            exact S.ed j j' p q her s2 hjo (hpre j' s3) hjad s4 hj s1 (fun e => hja (e ▸ s3)) z1 hq⟩
          refine ⟨p, ty, n', z, u, l1 _ _ z1, hout, z3, by rw [he2]; exact z4, ?_⟩
          rw [he2]
          refine z5.mono l1 (fun p' hp' => ?_) fun a' p' ha' => ?_
          · rw [z1] at hp'; cases hp'
            rw [l2.bel.block _ hout, k2]
          · rw [z4] at ha'; cases ha'
        · intro j j' p q her her' hjL hjL' hja hja' hj hj' hjj hp hq
          have hji : j ≠ i := fun e => by subst e; rw [hner] at her; cases her
          have hji' : j' ≠ i := fun e => by subst e; rw [hner] at her'; cases her'
          have hjo := yes' j hjL hji
          have hjo' := yes' j' hjL' hji'
          have hjad : j ∉ ad := fun hh => hja (S.ha j hh i (by simp))
          have hjad' : j' ∉ ad := fun hh => hja' (S.ha j' hh i (by simp))
          obtain ⟨p1, _, _, _, _, z1, _⟩ := S.ey j hj her hjo hjad
          obtain ⟨p2, _, _, _, _, z2, _⟩ := S.ey j' hj' her' hjo' hjad'
          have e1 := l1 _ _ z1
          have e2 := l1 _ _ z2
          rw [hp] at e1; cases e1
          rw [hq] at e2; cases e2
          exact S.ed j j' p q her her' hjo hjo' hjad hjad' hj hj' hjj z1 z2
      have hAW := q4 B' ρ (lay a0 a (own ops i o)) w r n (fun _ _ _ => False) (fun a1 w1 => ∃ ρ', Le ρ ρ' ∧ HR X P B' ρ' h1 c1 w1 ∧ TR ρ' nt u1 a1.tmps ∧ Kp hA h1 c ∧ c ≤ c1 ∧ a1.defers = (lay a0 a (own ops i o)).defers) k1 (hTR t' q3) fun ρ' a1 w1 l1 l2 l3 l4 l5 l6 => ⟨ρ', l1, l2, l3, l4, l5, l6⟩
      unfold wpOpIn
      simp only [ho]
      rw [hAg.wanted]
      have hsel : (∀ cs b, o.op ≠ .select cs b) ∧ ∀ c, o.op ≠ .defer c := ⟨fun _ _ hh => (by rw [hh] at hok; cases hok), fun _ hh => (by rw [hh] at hok; cases hok)⟩
      split
      · rename_i hw
        rw [if_pos hw] at hAW
        refine wpIn_agrees hAg hsel.1 hsel.2 hAW (fun v w' ⟨ρ', l1, l2, l3, l4, l5, l6⟩ => main v w' ⟨ρ', l1, l2, l3, l4, l5⟩) fun a1 w1 ⟨ρ', l1, l2, l3, l4, l5, l6⟩ => l6
      · rename_i hw
        rw [if_neg hw] at hAW
        obtain ⟨ρ', l1, l2, l3, l4, l5, l6⟩ := hAW
        exact ⟨fun _ _ => trivial, main undef w ⟨ρ', l1, l2, l3, l4, l5⟩⟩
end
end Ev
end
