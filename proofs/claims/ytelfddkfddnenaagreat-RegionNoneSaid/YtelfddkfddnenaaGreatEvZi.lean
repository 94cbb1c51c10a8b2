/- operations that make memory, wherever they come up. -/
import Derived.Test.YtelfddkfddnenaaGreatEvZh
namespace Ev
open Go Go.RowKit
set_option linter.unusedVariables false
set_option linter.unusedSimpArgs false
/-- the block that an operation makes, in whatever world -/
def ES (P : Program) (nt : Nat) (o : Oper) (t : TM) (id : Nat) (v : V) (b : Blk) : Prop := ∃ ty n z u, b = .c ty n 0 z u ∧ n ≤ u.cap ∧ ∀ (ρ : Rho) (w : World) (a : Act), TR ρ nt t a.tmps → ∃ cs x,
  cs.size = n ∧ CR ρ z u n cs ∧ (∀ ρ' : Rho, ρ' id = some (w.heap.size, 0) → den ρ' v = some x) ∧ (execOp a.eval o).run P w = .ok (.value x) (w.alloc (.cells cs ty))
def ESnd (P : Program) (nt : Nat) (f : OC) (o : Oper) (d : DS) : Prop := ∀ cal t h c df k v' h' c', f cal t h c df k = .fin v' h' c' → ∃ v b, c ≤ 65535 ∧ (d v t fun t => k t (hs h c b) (c + 1) df) = .fin v' h' c' ∧ ES P nt o t c v b
section
variable {P : Program} {nt : Nat} {o : Oper} {d : DS}
theorem early_alloc {T : TypeId} {l : List Value} {z : Z} (hop : o.op = .alloc T) (hz : zOf (types P) T = some l) (hzz : zer l = some z) (hl : l.length = siz (types P) T) : ESnd P nt (fAlloc d T (siz (types P) T) z) o d := by
  intro cal t h c df k v' h' c' e
  obtain ⟨e1, e2, e3⟩ := newC_fin e
  refine ⟨_, _, e2, e3, _, _, _, _, rfl, e1, fun ρ w a hT => ?_⟩
  obtain ⟨i, zv, hi, hzv, hcl⟩ := zOf_zero hz
  have hsz : zv.cells.size = siz (types P) T := by rw [← hl, ← hcl]; simp
  refine ⟨zv.cells, .pointer (some ⟨w.heap.size, 0, none⟩), hsz, ?_, fun ρ' hp => by simp [den, hp], ?_⟩
  · intro j hj
    obtain ⟨v, g1, g2⟩ := zer_pat hzz ρ j (by omega)
    rw [Nat.mod_eq_of_lt (by omega)] at g1
    refine ⟨v, by rw [← hcl] at g1; simpa using g1, ?_⟩
    unfold cell
    rw [orD_u (cget_ce0 _ _ (by omega))]; exact g2
  · simp [execOp, hop, Instr.alloc, zeroValue, typeInfo, hi, hzv, newVar, newRow]
theorem early_box {T : TypeId} {x : Operand} {y : OP} (hop : o.op = .box T x) (h1 : cOpd nt x = .mk y) : ESnd P nt (fBox d T (siz (types P) T) y) o d := by
  intro cal t h c df k v' h' c' e
  obtain ⟨e0, e1⟩ := ifT_fin e
  have hlen : (cl (y t)).length = siz (types P) T := by rw [← len_eq]; exact Nat.eq_of_beq_eq_true e0
  obtain ⟨u, e2, e3, e8, e4⟩ := stK_fin (o := 0) e1
  obtain ⟨e5, e6, e7⟩ := newC_fin e2
  refine ⟨_, _, e6, e7, _, _, _, _, rfl, e5, fun ρ w a hT => ?_⟩
  have hx := cl_den (opd_den h1 hT)
  have hsz : (a.eval x).cells.size = siz (types P) T := by have := denL_length hx; rw [hlen] at this; simpa using this
  have hcap0 : siz (types P) T ≤ (ce0 (siz (types P) T)).cap := e8 ▸ e5
  have hu := e4 (by omega)
  refine ⟨(a.eval x).cells, .pointer (some ⟨w.heap.size, 0, none⟩), hsz, ?_, fun ρ' hp => by simp [den, hp], ?_⟩
  · rw [hu]
    refine CR.sets (n := 0) (cs := #[]) (fun i hi => by omega) hx e3 (by omega) hcap0 fun i hi => ?_
    rw [if_pos ⟨by omega, by omega⟩]
    simp
  · simp [execOp, hop, Instr.box, newVar, newRow]
theorem early_bsl {T E n : Nat} {ps : Array (Nat × Operand)} {z : List V} {l : List Value} {os : List (Nat × Nat × OP)} (hop : o.op = .buildSlice T n ps) (hT : und (types P) T = some (.slice E)) (hz : zOf (types P) E = some l) (hzz : cVs l = some z) (hl : z.length = siz (types P) E) (hpos : 0 < siz (types P) E) (hle : n * siz (types P) E ≤ 1000000)
    (hp : parts (types P) nt (fun i => some (i * siz (types P) E, siz (types P) E)) ps.toList = .mk os) : ESnd P nt (fBsl d E (siz (types P) E) n z os) o d := by
  intro cal t h c df k v' h' c' e
  have e0 : psK (n * siz (types P) E) t os (ce0 (n * siz (types P) E)) (fun u => newC E (n * siz (types P) E) (nat_lit 0) (.l z (siz (types P) E)) u h c fun h c' => d (.sl c (nat_lit 0) n n false) t fun t => k t h c' df) = .fin v' h' c' := by
    have := e; unfold fBsl at this; rw [fN_eq] at this; exact this
  obtain ⟨u, e1, e2, e3⟩ := psK_fin hp e0
  obtain ⟨e4, e5, e6⟩ := newC_fin e1
  refine ⟨_, _, e5, e6, _, _, _, _, rfl, e4, fun ρ w a hT' => ?_⟩
  obtain ⟨i, zv, hi, hzv, hcl⟩ := zOf_zero hz
  obtain ⟨ie, hie, hs, _⟩ := siz_pos hpos
  rw [hi] at hie; cases hie
  have hzd := cVs_den (ρ := ρ) hzz
  have hlen : l.length = siz (types P) E := by rw [← hl]; exact denL_length hzd
  have hcl' : zv.cells = l.toArray := by rw [← hcl]
  have hcap : n * siz (types P) E ≤ (ce0 (n * siz (types P) E)).cap := e2 ▸ e4
  have hpat := CR.pat (m := n * siz (types P) E) hzd (by omega) hcap
  rw [hlen] at hpat
  obtain ⟨cs', g1, g2, g3⟩ := e3 ρ a (.l z (siz (types P) E)) _ hT' hcap (by simp) hpat
  refine ⟨cs', .slice (some ⟨w.heap.size, 0, none⟩) n n, g2, g3, fun ρ' hp => by simp [den, hp], ?_⟩
  have hps : (ps.map fun (i, x) => (i, a.eval x)).toList = ps.toList.map fun p => (p.1, a.eval p.2) := by simp
  have hzc : (if n * i.size = 0 then (#[] : Array Value) else zv.cells) = if n * i.size = 0 then #[] else l.toArray := by rw [hcl']
  simp only [execOp, hop, Instr.buildSlice]
  have hle' : ¬ n * i.size > 2 ^ 24 := by rw [← hs]; omega
  simp only [Sem.run_bind, run_underlying (und_under hT).1, Result.andThen_ok, run_sizeOf P hi]
  rw [if_neg hle']
  by_cases h0 : n * i.size = 0
  · have hn : n = 0 := by
      rcases Nat.mul_eq_zero.1 h0 with h1 | h1
      · exact h1
      · rw [← hs] at h1; omega
    subst hn
    simp only [h0, if_true, Sem.run_bind, Sem.run_pure, Result.andThen_ok]
    have g1' : Instr.fill (fun j => some (j * i.size, i.size)) ((Array.range 0).map fun j => (#[] : Array Value)[j % (#[] : Array Value).size]!) (ps.map fun (i, x) => (i, a.eval x)).toList = some cs' := by
      rw [hps, ← g1, hs]
      congr 1
      simp
    rw [g1']
    simp [newRow]
  · rw [if_neg h0]
    have hzr : (zeroValue E).run P w = .ok zv w := by simp [zeroValue, typeInfo, hi, hzv]
    have g1' : Instr.fill (fun j => some (j * i.size, i.size)) ((Array.range (n * i.size)).map fun j => l.toArray[j % l.toArray.size]!) (ps.map fun (i, x) => (i, a.eval x)).toList = some cs' := by
      rw [hps, ← g1, hs]
    simp only [Sem.run_bind, hzr, Result.andThen_ok, Sem.run_pure, hcl']
    rw [g1']
    simp [newRow]
theorem early_mks {T E : Nat} {x y : Operand} {y1 y2 : OP} {l : List Value} {z : Z} (hop : o.op = .makeSlice T x y) (h1 : cOpd nt x = .mk y1) (h2 : cOpd nt y = .mk y2) (hT : und (types P) T = some (.slice E)) (hz : zOf (types P) E = some l) (hzz : zer l = some z) (hl : l.length = siz (types P) E) (hpos : 0 < siz (types P) E) : ESnd P nt (fMks d E (siz (types P) E) (byt (types P) E) z y1 y2) o d := by
  intro cal t h c df k v' h' c' e
  obtain ⟨k1, m, e1, e2⟩ := asN_fin e
  obtain ⟨k2, n, e3, e4⟩ := asN_fin e2
  obtain ⟨e5, e6⟩ := ifT_fin e4
  obtain ⟨e7, e8⟩ := ifT_fin e6
  obtain ⟨e9, e10⟩ := ifT_fin e8
  rw [fN_eq] at e10
  obtain ⟨e11, e12, e13⟩ := newC_fin e10
  refine ⟨_, _, e12, e13, _, _, _, _, rfl, e11, fun ρ w a hTR => ?_⟩
  obtain ⟨i, zv, hi, hzv, hcl⟩ := zOf_zero hz
  obtain ⟨ie, hie, hs, hb⟩ := siz_pos hpos
  rw [hi] at hie; cases hie
  have d1 := nat_den e1 (opd_den h1 hTR)
  have d2 := nat_den e3 (opd_den h2 hTR)
  have hmn : m ≤ n := Nat.le_of_ble_eq_true e5
  have hn : n ≤ 281474976710656 := Nat.le_of_ble_eq_true e7
  have hw : byt (types P) E * n ≤ 281474976710656 := Nat.le_of_ble_eq_true e9
  have hcap : n * siz (types P) E ≤ (ce0 (n * siz (types P) E)).cap := e11
  have hsz : zv.cells.size = siz (types P) E := by rw [← hl, ← hcl]; simp
  have hms : (madeCells zv.cells (n * siz (types P) E)).size = n * siz (types P) E := by simp [madeCells]
  refine ⟨madeCells zv.cells (n * siz (types P) E), .slice (some ⟨w.heap.size, 0, none⟩) m n, hms, ?_, fun ρ' hp => by simp [den, hp], ?_⟩
  · intro j hj
    have hj : j < n * siz (types P) E := hj
    obtain ⟨v, g1, g2⟩ := zer_pat hzz ρ j (by omega)
    refine ⟨v, ?_, ?_⟩
    · unfold madeCells
      have hjl : j % l.length < l.length := Nat.mod_lt _ (by omega)
      have hzl : zv.cells = l.toArray := by rw [← hcl]
      rw [hzl]
      simp [hj]
      rw [List.getElem?_eq_getElem hjl] at g1
      simpa [hjl] using g1
    · unfold cell
      rw [orD_u (cget_ce0 _ _ (by omega))]; exact g2
  · have hbytes : (i.bytes : Int) * (n : Int) ≤ 281474976710656 := by
      rw [← hb]
      have : ((byt (types P) E * n : Nat) : Int) ≤ 281474976710656 := by omega
      rwa [Int.natCast_mul] at this
    have hr := run_make (P := P) w T E i zv (und_under hT).1 hi hzv (kd k1) (kd k2) m n (by omega) (by omega) hbytes (by omega)
    simp only [Int.toNat_natCast] at hr
    rw [← hs] at hr
    simp only [execOp, hop, d1, d2]
    rw [Sem.run_bind, hr]; rfl
theorem esnd_bad {n : Nat} : ESnd P nt (badO n) o d := fun cal t h c df k v' h' c' e => (by cases e)
theorem cOp_early (he : isEarly o.op = true) {f : OC} (h : cOp P (types P) nt o = .mk f) : (∃ d, cDst nt o.dst = .mk d ∧ ESnd P nt f o d) ∨ f = badO 250 := by
  unfold cOp at h
  rcases bx_cases h with ⟨d, hd, h⟩ | rfl
  case inr => exact .inr rfl
  refine .inl ⟨d, hd, ?_⟩
  generalize hop : o.op = op at *
  cases op <;> simp only [isEarly, Bool.false_eq_true] at he <;> simp only at h
  case alloc t =>
    split at h
    · rename_i l hl
      split at h
      · rename_i z hz
        rcases bif_cases h with ⟨hb, h⟩ | ⟨_, h⟩
        · cases h; exact early_alloc hop hl hz (Nat.eq_of_beq_eq_true hb)
        · cases h; exact esnd_bad
      · cases h; exact esnd_bad
    · cases h; exact esnd_bad
  case box t x =>
    rcases bx_cases h with ⟨y, hy, h⟩ | rfl
    · cases h; exact early_box hop hy
    · exact esnd_bad
  case buildSlice t n ps =>
    split at h
    · rename_i e hT
      split at h
      · rename_i z hz
        obtain ⟨l, hz1, hz2⟩ := Option.bind_eq_some_iff.1 hz
        rcases bif_cases h with ⟨hb, h⟩ | ⟨_, h⟩
        · simp only [Bool.and_eq_true] at hb
          rcases bx_cases h with ⟨os, ho, h⟩ | rfl
          · cases h; exact early_bsl hop hT hz1 hz2 (Nat.eq_of_beq_eq_true hb.1.1) (by simpa using hb.1.2) (Nat.le_of_ble_eq_true hb.2) ho
          · exact esnd_bad
        · cases h; exact esnd_bad
      · cases h; exact esnd_bad
    · cases h; exact esnd_bad
  case makeSlice t x y =>
    rcases bx_cases h with ⟨y1, h1, h⟩ | rfl
    case inr => exact esnd_bad
    rcases bx_cases h with ⟨y2, h2, h⟩ | rfl
    case inr => exact esnd_bad
    split at h
    · rename_i e hT
      split at h
      · rename_i zl hz
        split at h
        · rename_i z hzz
          rcases bif_cases h with ⟨hb, h⟩ | ⟨_, h⟩
          · simp only [Bool.and_eq_true] at hb
            cases h; exact early_mks hop h1 h2 hT hz hzz (Nat.eq_of_beq_eq_true hb.2) (by simpa using hb.1)
          · cases h; exact esnd_bad
        · cases h; exact esnd_bad
      · cases h; exact esnd_bad
    · cases h; exact esnd_bad
end
end Ev
