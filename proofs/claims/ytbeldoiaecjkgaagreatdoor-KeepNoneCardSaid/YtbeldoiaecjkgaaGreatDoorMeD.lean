/- EvM, EvN, EvO, EvP, EvQ, EvR. -/
import Derived.Test.YtbeldoiaecjkgaaGreatDoorMeC
import Derived.Laws.Tables
import Derived.Laws.MakeOwn
import Derived.Laws.BytesString
section
namespace Ev
open Go Go.RowKit
set_option linter.unusedVariables false
set_option linter.unusedSimpArgs false
theorem newK_fin {b : Blk} {h : HP} {c : Nat} {k : HP → Nat → R} {v : V} {h' : HP} {c' : Nat} (e : newK b h c k = .fin v h' c') : c ≤ 65535 ∧ k (hs h c b) (c + 1) = .fin v h' c' := by
  obtain ⟨e1, e2⟩ := ifT_fin e
  rw [hset_eq, fN_eq] at e2
  exact ⟨Nat.le_of_ble_eq_true e1, e2⟩
theorem newC_fin {ty n q : Nat} {z : Z} {t : Ce} {h : HP} {c : Nat} {k : HP → Nat → R} {v : V} {h' : HP} {c' : Nat} (e : newC ty n q z t h c k = .fin v h' c') : n ≤ t.cap ∧ c ≤ 65535 ∧ k (hs h c (.c ty n q z t)) (c + 1) = .fin v h' c' := by
  obtain ⟨e1, e2⟩ := ifT_fin e
  obtain ⟨e3, e4⟩ := newK_fin e2
  exact ⟨(ceB_iff n t).1 e1, e3, e4⟩
section
variable {X : Spx} {P : Program} {w0 : Base} {w : World} {ρ : Rho} {h : HP} {c : Nat}
theorem Kp.new (H : HR X P w0 ρ h c w) {b : Blk} (hc : c ≤ 65535) : Kp h (Ev.hs h c b) c := fun k hk e => by
  rw [hget_hs b h (by omega) (by omega), if_neg (by omega)]; exact e
theorem HR.newC (H : HR X P w0 ρ h c w) {ty n q κ : Nat} {z : Z} {t : Ce} {cs : Array Value} (hc : c ≤ 65535) (h1 : n ≤ t.cap) (h2 : n ≤ cs.size) (h3 : q = 0 → cs.size = n) (h4 : q ≠ 0 → cs.size = κ * q) (hC : CR ρ z t n cs) :
    Le ρ (up ρ c (w.heap.size, κ)) ∧ HR X P w0 (up ρ c (w.heap.size, κ)) (Ev.hs h c (.c ty n q z t)) (c + 1) (w.alloc (.cells cs ty)) ∧ Kp h (Ev.hs h c (.c ty n q z t)) c := by
  refine ⟨H.le_up _, H.new hc _ κ (by simp) (by simp) ?_, Kp.new H hc⟩
  exact ⟨(w.heap.size, κ), cs, up_self _ _ _, by rw [World.alloc]; simp, h1, h2, h3, h4, hC.mono (H.le_up _)⟩
end
theorem unif_all {k : IntKind} : ∀ {l : List Value}, unif k l = true → ∀ i, i < l.length → l[i]? = some (.int k 0)
  | [], _, i, h => by simp at h
  | v :: l, hu, i, hi => by
    cases v with
    | int k' n =>
      simp only [unif, Bool.and_eq_true] at hu
      obtain ⟨⟨h1, h2⟩, h3⟩ := hu
      have hk : k = k' := by have := Nat.eq_of_beq_eq_true h1; rw [← kd_kN k, this, kd_kN]
      have hn : n = 0 := by rw [ieq_eq] at h2; simpa using h2
      subst hk; subst hn
      cases i with
      | zero => rfl
      | succ i => simpa using unif_all h3 i (by simpa using hi)
    | _ => simp [unif] at hu
theorem zer_pat {l : List Value} {z : Z} (h : zer l = some z) (ρ : Rho) (i : Nat) (hl : 0 < l.length) : ∃ v, l[i % l.length]? = some v ∧ den ρ (dfl z i) = some v := by
  have pat : ∀ {l : List Value} {x : List V}, cVs l = some x → 0 < l.length → ∃ v, l[i % l.length]? = some v ∧ den ρ (dfl (.l x l.length) i) = some v := by
    intro l x hx hl
    have hd := cVs_den (ρ := ρ) hx
    have hlen := denL_length hd
    have hlt : i % l.length < x.length := by rw [← hlen]; exact Nat.mod_lt _ hl
    exact nth_den hd hlt
  unfold zer at h
  split at h
  · rename_i k r
    cases hu : unif k r with
    | true =>
      rw [hu] at h; cases h
      refine ⟨.int k 0, ?_, by simp [dfl, den, kd_kN]⟩
      have hu' : unif k (.int k (.ofNat 0) :: r) = true := by
        simp only [unif, hu, Bool.and_true]
        rw [show ieq (Int.ofNat 0) 0 = true from rfl]
        simp
      exact unif_all hu' _ (Nat.mod_lt _ hl)
    | false =>
      rw [hu] at h
      simp only [cond_false, Option.map_eq_some_iff] at h
      obtain ⟨x, hx, rfl⟩ := h
      exact pat hx hl
  · simp only [Option.map_eq_some_iff] at h
    obtain ⟨x, hx, rfl⟩ := h
    exact pat hx hl
theorem orD_u {v : V} {z : Z} {o : Nat} (h : v = .u) : orD v z o = dfl z o := by subst h; rfl
section
variable {X : Spx} {P : Program} {nt : Nat} {o : Oper} {d : DS}
theorem snd_alloc {T : TypeId} {l : List Value} {z : Z} (hop : o.op = .alloc T) (hd : cDst nt o.dst = .mk d) (hz : zOf (types P) T = some l) (hzz : zer l = some z) (hl : l.length = siz (types P) T) : OSnd X P nt (fAlloc d T (siz (types P) T) z) o := by
  refine OSnd.mem (by rw [hop]; simp) hd fun cal _ t h c df k v' h' c' e => ?_
  obtain ⟨e1, e2, e3⟩ := newC_fin e
  refine ⟨_, _, _, e3, fun w0 ρ a w hR hT => ?_⟩
  obtain ⟨i, zv, hi, hzv, hcl⟩ := zOf_zero hz
  have hsz : zv.cells.size = siz (types P) T := by rw [← hl, ← hcl]; simp
  have hC : CR ρ z (ce0 (siz (types P) T)) (siz (types P) T) zv.cells := by
    intro j hj
    obtain ⟨v, g1, g2⟩ := zer_pat hzz ρ j (by omega)
    rw [Nat.mod_eq_of_lt (by omega)] at g1
    refine ⟨v, by rw [← hcl] at g1; simpa using g1, ?_⟩
    unfold cell
    rw [orD_u (cget_ce0 _ _ (by omega))]; exact g2
  obtain ⟨g1, g2, g3⟩ := hR.newC (ty := T) (κ := 0) (q := 0) e2 e1 (by omega) (fun _ => hsz) (fun hh => absurd rfl hh) hC
  refine ⟨_, .pointer (some ⟨w.heap.size, 0, none⟩), _, g1, g2, by simp [den, up_self], g3, by omega, ?_⟩
  simp [execOp, hop, Instr.alloc, zeroValue, typeInfo, hi, hzv, newVar, newRow]
theorem snd_box {T : TypeId} {x : Operand} {y : OP} (hop : o.op = .box T x) (hd : cDst nt o.dst = .mk d) (h1 : cOpd nt x = .mk y) : OSnd X P nt (fBox d T (siz (types P) T) y) o := by
  refine OSnd.mem (by rw [hop]; simp) hd fun cal _ t h c df k v' h' c' e => ?_
  obtain ⟨e0, e1⟩ := ifT_fin e
  have hlen : (cl (y t)).length = siz (types P) T := by rw [← len_eq]; exact Nat.eq_of_beq_eq_true e0
  obtain ⟨u, e2, e3, e8, e4⟩ := stK_fin (o := 0) e1
  obtain ⟨e5, e6, e7⟩ := newC_fin e2
  refine ⟨_, _, _, e7, fun w0 ρ a w hR hT => ?_⟩
  have hx := cl_den (opd_den h1 hT)
  have hsz : (a.eval x).cells.size = siz (types P) T := by have := denL_length hx; rw [hlen] at this; simpa using this
  have hcap0 : siz (types P) T ≤ (ce0 (siz (types P) T)).cap := e8 ▸ e5
  have hu := e4 (by omega)
  have hC : CR ρ (.c .u) u (siz (types P) T) (a.eval x).cells := by
    rw [hu]
    refine CR.sets (n := 0) (cs := #[]) (fun i hi => by omega) hx e3 (by omega) hcap0 fun i hi => ?_
    rw [if_pos ⟨by omega, by omega⟩]
    simp
  obtain ⟨g1, g2, g3⟩ := hR.newC (ty := T) (κ := 0) (q := 0) e6 e5 (by omega) (fun _ => hsz) (fun hh => absurd rfl hh) hC
  refine ⟨_, .pointer (some ⟨w.heap.size, 0, none⟩), _, g1, g2, by simp [den, up_self], g3, by omega, ?_⟩
  simp [execOp, hop, Instr.box, newVar, newRow]
end
end Ev
end
section
namespace Ev
open Go Go.RowKit
set_option linter.unusedVariables false
set_option linter.unusedSimpArgs false
theorem fold_set (off : Nat) : ∀ (xs : List Value) (k : Nat) (cs : Array Value), ((xs.zipIdx k).foldl (fun cs p => cs.setIfInBounds (off + p.2) p.1) cs).size = cs.size ∧
    ∀ i, i < cs.size → ((xs.zipIdx k).foldl (fun cs p => cs.setIfInBounds (off + p.2) p.1) cs)[i]? = if off + k ≤ i ∧ i < off + k + xs.length then xs[i - off - k]? else cs[i]?
  | [], k, cs => ⟨rfl, fun i _ => by rw [if_neg (by simp)]; rfl⟩
  | x :: xs, k, cs => by
    simp only [List.zipIdx_cons, List.foldl_cons]
    obtain ⟨h1, h2⟩ := fold_set off xs (k + 1) (cs.setIfInBounds (off + k) x)
    refine ⟨by rw [h1]; simp, fun i hi => ?_⟩
    rw [h2 i (by simpa using hi)]
    simp only [List.length_cons]
    by_cases e : i = off + k
    · subst e
      rw [if_neg (by omega), if_pos (by omega)]
      have : off + k - off - k = 0 := by omega
      rw [this]
      simp [hi]
    · by_cases hin : off + k ≤ i ∧ i < off + k + (xs.length + 1)
      · rw [if_pos (by omega), if_pos hin]
        have : i - off - k = (i - off - (k + 1)) + 1 := by omega
        rw [this]; simp
      · rw [if_neg (by omega), if_neg hin, Array.getElem?_setIfInBounds_ne (by omega)]
theorem psK_fin {tt : TT} {nt : Nat} {pl : Nat → Option (Nat × Nat)} {m : Nat} {t0 : TM} : ∀ {l : List (Nat × Operand)} {ps : List (Nat × Nat × OP)} {u : Ce} {k : Ce → R} {v : V} {h : HP} {c : Nat}, parts tt nt pl l = .mk ps → psK m t0 ps u k = .fin v h c →
    ∃ u', k u' = .fin v h c ∧ u'.cap = u.cap ∧ ∀ (ρ : Rho) (a : Act) (z : Z) (cs : Array Value), TR ρ nt t0 a.tmps → m ≤ u.cap → cs.size = m → CR ρ z u m cs →
      ∃ cs', Instr.fill pl cs (l.map fun p => (p.1, a.eval p.2)) = some cs' ∧ cs'.size = m ∧ CR ρ z u' m cs'
  | [], ps, u, k, v, h, c, hp, H => by
    cases hp
    exact ⟨u, H, rfl, fun ρ a z cs _ _ hs hC => ⟨cs, rfl, hs, hC⟩⟩
  | (i, x) :: l, ps, u, k, v, h, c, hp, H => by
    unfold parts at hp
    split at hp
    · rename_i o' sz y ys h1 h2 h3
      cases hp
      have H' : ifT (Nat.beq (len (cl (y t0))) sz) (ifT (Nat.ble (Nat.add o' sz) m) (stK (cl (y t0)) u o' fun t => psK m t0 ys t k) (.bad 14)) (.bad 15) = .fin v h c := H
      obtain ⟨e1, e2⟩ := ifT_fin H'
      obtain ⟨e3, e4⟩ := ifT_fin e2
      obtain ⟨u1, e5, e6, e7, e8⟩ := stK_fin e4
      obtain ⟨u', g1, g2, g3⟩ := psK_fin h3 e5
      have hlen : (cl (y t0)).length = sz := by rw [← len_eq]; exact Nat.eq_of_beq_eq_true e1
      have hle : o' + sz ≤ m := Nat.le_of_ble_eq_true e3
      refine ⟨u', g1, g2.trans e7, fun ρ a z cs hT hcap hs hC => ?_⟩
      have hx := cl_den (opd_den h2 hT)
      have hsz : (a.eval x).cells.size = sz := by have := denL_length hx; rw [hlen] at this; simpa using this
      have hf := fold_set o' (a.eval x).cells.toList 0 cs
      have hC1 : CR ρ z u1 m (((a.eval x).cells.toList.zipIdx 0).foldl (fun cs p => cs.setIfInBounds (o' + p.2) p.1) cs) := by
        rw [e8 (by omega)]
        refine CR.sets (cs := cs) hC hx e6 (by omega) hcap fun i hi => ?_
        have := hf.2 i (by omega)
        simp only [Nat.add_zero, Array.length_toList, Nat.sub_zero, hsz] at this
        rw [hlen, this]
        split
        · rfl
        · exact ⟨hi, rfl⟩
      obtain ⟨cs', k1, k2, k3⟩ := g3 ρ a z _ hT (by omega) (by rw [hf.1]; exact hs) hC1
      refine ⟨cs', ?_, k2, k3⟩
      simp only [List.map_cons, Instr.fill, h1]
      rw [if_neg (by rw [hsz]; simp; omega)]
      rw [← k1]
      congr 1
      rw [← Array.foldl_toList]
      simp [Array.toList_zipIdx]
    · cases hp
section
variable {X : Spx} {P : Program} {nt : Nat} {o : Oper} {d : DS}
theorem CR.const {ρ : Rho} {z : List V} {l : List Value} (hz : denL ρ z = some l) (hc : len z ≤ (ce0 (len z)).cap) : CR ρ (.l z (len z)) (ce0 (len z)) (len z) l.toArray := by
  intro i hi
  have hi' := hi
  rw [len_eq] at hi'
  obtain ⟨v, h1, h2⟩ := nth_den hz hi'
  refine ⟨v, by simpa using h1, ?_⟩
  unfold cell
  rw [orD_u (cget_ce0 _ _ (by omega))]
  show den ρ (nth z (i % len z)) = _
  rw [Nat.mod_eq_of_lt hi]; exact h2
theorem places_ok {fs : Array Field} (h : (fs.all fun f => okI (types P) f.type) = true) : fs.toList.mapM (fun f => (P.info? f.type).map fun i => (f.offset, i.size)) = some (fs.toList.map fun f => (f.offset, siz (types P) f.type)) := by
  have h' : ∀ f ∈ fs.toList, okI (types P) f.type = true := by
    intro f hf
    rw [Array.all_eq_true] at h
    obtain ⟨i, hi, rfl⟩ := Array.mem_iff_getElem.1 (Array.mem_toList_iff.1 hf)
    exact h i hi
  generalize fs.toList = l at h' ⊢
  clear h
  induction l with
  | nil => rfl
  | cons f l ih =>
    obtain ⟨D, hD⟩ := okI_some (h' f (by simp))
    obtain ⟨i, hi, hs, _⟩ := (und_under hD).2
    rw [List.mapM_cons, ih fun g hg => h' g (by simp [hg])]
    simp [hi, hs]
theorem snd_build {T : TypeId} {ps : Array (Nat × Operand)} {z : List V} {l : List Value} {pl : Nat → Option (Nat × Nat)} {os : List (Nat × Nat × OP)} (hop : o.op = .build T ps) (hd : cDst nt o.dst = .mk d) (hz : zOf (types P) T = some l) (hzz : cVs l = some z) (hc : ceB (len z) (ce0 (len z)) = true) (hp : parts (types P) nt pl ps.toList = .mk os)
    (hpl : (∃ fs, und (types P) T = some (.struct fs) ∧ (fs.all fun f => okI (types P) f.type) = true ∧ pl = fun i => (fs[i]?).map fun f => (f.offset, siz (types P) f.type)) ∨ ∃ n E, und (types P) T = some (.array n E) ∧ okI (types P) E = true ∧ pl = fun i => some (i * siz (types P) E, siz (types P) E)) : VSnd X P nt d (fBuild d z os) o := by
  refine VSnd.of (by rw [hop]; simp) hd fun cal t h c df k v' h' c' e => ?_
  obtain ⟨u, e1, e2, e3⟩ := psK_fin hp e
  rw [cellsK_eq] at e1
  refine ⟨_, e1, fun w0 ρ a w hR hT => ?_⟩
  obtain ⟨i, zv, hi, hzv, hcl⟩ := zOf_zero hz
  have hzd := cVs_den (ρ := ρ) hzz
  have hlen : l.length = len z := by rw [len_eq]; exact denL_length hzd
  have hcap := (ceB_iff _ _).1 hc
  have hcl' : zv.cells = l.toArray := by rw [← hcl]
  obtain ⟨cs', g1, g2, g3⟩ := e3 ρ a (.l z (len z)) l.toArray hT hcap (by simpa using hlen) (CR.const hzd hcap)
  refine ⟨.agg cs', ?_, ?_⟩
  · have := CR.load (ρ := ρ) g3 (len z) 0 (by omega)
    simp only [Nat.zero_add] at this
    have e0 : (List.range (len z)).map (fun j => cell (.l z (len z)) u (0 + j)) = (List.range (len z)).map fun j => cell (.l z (len z)) u j := by simp
    simp only [den]
    have e1' : denL ρ ((List.range (len z)).map fun j => cell (.l z (len z)) u (0 + j)) = some cs'.toList := by
      rw [e0, this]
      simp only [List.drop_zero, Option.some.injEq]
      exact List.take_of_length_le (by simp; omega)
    have e2' : denL ρ ((List.range (len z)).map fun j => cell (.l z (len z)) u ((nat_lit 0) + j)) = some cs'.toList := e1'
    rw [e2']; simp
  · have hb : P.built T (ps.map fun (i, x) => (i, a.eval x)).toList = some cs' := by
      unfold Program.built
      rw [hi]
      rcases hpl with ⟨fs, hfs, hall, rfl⟩ | ⟨n, E, hE, hok, rfl⟩
      · rw [(und_under hfs).1]
        simp only [hzv, places_ok hall, hcl']
        rw [← g1]
        congr 1
        · funext i; simp
        · simp
      · rw [(und_under hE).1]
        obtain ⟨D, hD⟩ := okI_some hok
        obtain ⟨ie, hie, hs, _⟩ := (und_under hD).2
        simp only [hzv, hie, hcl']
        rw [← g1, hs]
        congr 1
        simp
    simp only [execOp, hop]
    rw [Sem.run_bind, run_build w T _ cs' hb]; rfl
theorem CR.pat {ρ : Rho} {z : List V} {l : List Value} {m : Nat} (hz : denL ρ z = some l) (hl : 0 < l.length) (hc : m ≤ (ce0 m).cap) : CR ρ (.l z l.length) (ce0 m) m ((Array.range m).map fun j => l.toArray[j % l.toArray.size]!) := by
  intro i hi
  have hlt : i % l.length < z.length := by rw [← denL_length hz]; exact Nat.mod_lt _ hl
  obtain ⟨v, h1, h2⟩ := nth_den hz hlt
  refine ⟨v, ?_, ?_⟩
  · simp [hi]
    have : i % l.length < l.length := Nat.mod_lt _ hl
    rw [List.getElem?_eq_getElem this] at h1
    simpa [getElem!_pos, this] using h1
  · unfold cell
    rw [orD_u (cget_ce0 _ _ (by omega))]
    exact h2
theorem snd_bsl {T E n : Nat} {ps : Array (Nat × Operand)} {z : List V} {l : List Value} {os : List (Nat × Nat × OP)} (hop : o.op = .buildSlice T n ps) (hd : cDst nt o.dst = .mk d) (hT : und (types P) T = some (.slice E)) (hz : zOf (types P) E = some l) (hzz : cVs l = some z) (hl : z.length = siz (types P) E) (hpos : 0 < siz (types P) E) (hle : n * siz (types P) E ≤ 1000000)
    (hp : parts (types P) nt (fun i => some (i * siz (types P) E, siz (types P) E)) ps.toList = .mk os) : OSnd X P nt (fBsl d E (siz (types P) E) n z os) o := by
  refine OSnd.mem (by rw [hop]; simp) hd fun cal _ t h c df k v' h' c' e => ?_
  have e0 : psK (n * siz (types P) E) t os (ce0 (n * siz (types P) E)) (fun u => newC E (n * siz (types P) E) (nat_lit 0) (.l z (siz (types P) E)) u h c fun h c' => d (.sl c (nat_lit 0) n n false) t fun t => k t h c' df) = .fin v' h' c' := by
    have := e; unfold fBsl at this; rw [fN_eq] at this; exact this
  obtain ⟨u, e1, e2, e3⟩ := psK_fin hp e0
  obtain ⟨e4, e5, e6⟩ := newC_fin e1
  refine ⟨_, _, _, e6, fun w0 ρ a w hR hT' => ?_⟩
  obtain ⟨i, zv, hi, hzv, hcl⟩ := zOf_zero hz
  obtain ⟨ie, hie, hs, _⟩ := siz_pos hpos
  rw [hi] at hie; cases hie
  have hzd := cVs_den (ρ := ρ) hzz
  have hlen : l.length = siz (types P) E := by rw [← hl]; exact denL_length hzd
  have hcl' : zv.cells = l.toArray := by rw [← hcl]
  have hcap : n * siz (types P) E ≤ (ce0 (n * siz (types P) E)).cap := e2 ▸ e4
  have hpat := CR.pat (m := n * siz (types P) E) hzd (by omega) hcap
  rw [hlen] at hpat
  obtain ⟨cs', g1, g2, g3⟩ := e3 ρ a (.l z (siz (types P) E)) _ hT' hcap (by simp) hpat
  obtain ⟨k1, k2, k3⟩ := hR.newC (ty := E) (κ := 0) (q := 0) e5 e4 (by omega) (fun _ => g2) (fun hh => absurd rfl hh) g3
  refine ⟨_, .slice (some ⟨w.heap.size, 0, none⟩) n n, _, k1, k2, by simp [den, up_self], k3, by omega, ?_⟩
  have hps : (ps.map fun (i, x) => (i, a.eval x)).toList = ps.toList.map fun p => (p.1, a.eval p.2) := by simp
  have hzc : (if n * i.size = 0 then (#[] : Array Value) else zv.cells) = if n * i.size = 0 then #[] else l.toArray := by rw [hcl']
  simp only [execOp, hop, Instr.buildSlice]
  have hle' : ¬ n * i.size > 2 ^ 24 := by rw [← hs]; omega
  simp only [Sem.run_bind, run_underlying (und_under hT).1, Result.andThen_ok, run_sizeOf P hi]
  rw [if_neg hle']
  by_cases h0 : n * i.size = 0
  · have hn : n = 0 := by
      rcases Nat.mul_eq_zero.1 h0 with h1 | h1
      · exact h1
      · rw [← hs] at h1; omega
    subst hn
    simp only [h0, if_true, Sem.run_bind, Sem.run_pure, Result.andThen_ok]
    have g1' : Instr.fill (fun j => some (j * i.size, i.size)) ((Array.range 0).map fun j => (#[] : Array Value)[j % (#[] : Array Value).size]!) (ps.map fun (i, x) => (i, a.eval x)).toList = some cs' := by
      rw [hps, ← g1, hs]
      congr 1
      simp
    rw [g1']
    simp [newRow]
  · rw [if_neg h0]
    have hzr : (zeroValue E).run P w = .ok zv w := by simp [zeroValue, typeInfo, hi, hzv]
    have g1' : Instr.fill (fun j => some (j * i.size, i.size)) ((Array.range (n * i.size)).map fun j => l.toArray[j % l.toArray.size]!) (ps.map fun (i, x) => (i, a.eval x)).toList = some cs' := by
      rw [hps, ← g1, hs]
    simp only [Sem.run_bind, hzr, Result.andThen_ok, Sem.run_pure, hcl']
    rw [g1']
    simp [newRow]
end
end Ev
end
section
namespace Ev
open Go Go.RowKit
set_option linter.unusedVariables false
set_option linter.unusedSimpArgs false
theorem rdL_eq {t : TM} : ∀ {l : List OP} {k : List V → R}, rdL t l k = k (l.map fun o => o t)
  | [], _ => rfl
  | o :: l, k => by
    show rdL t l (fun l => k (o t :: l)) = _
    rw [rdL_eq]; rfl
theorem byK_fin : ∀ {l : List V} {k : List Nat → R} {v : V} {h : HP} {c : Nat}, byK l k = .fin v h c → ∃ s, k s = .fin v h c ∧ ∀ ρ r, denL ρ l = some r → r = (s.map fun (m : Nat) => (m : Int)).map (Value.int .u8)
  | [], k, v, h, c, H => ⟨[], H, fun ρ r hr => by simp [denL] at hr; simp [← hr]⟩
  | x :: l, k, v, h, c, H => by
    have H' : asN x (fun q m => ifT (Nat.beq q 4) (byK l fun l => k (m :: l)) (.bad 44)) = .fin v h c := H
    obtain ⟨q, m, e1, e2⟩ := asN_fin H'
    obtain ⟨e3, e4⟩ := ifT_fin e2
    obtain ⟨s, g1, g2⟩ := byK_fin e4
    have hq : q = 4 := Nat.eq_of_beq_eq_true e3
    refine ⟨m :: s, g1, fun ρ r hr => ?_⟩
    obtain ⟨y, ys, rfl, h1, h2⟩ := denL_cons.1 hr
    rw [g2 ρ ys h2, nat_den e1 h1, hq]
    rfl
theorem push_str (s : List Nat) : ∀ (r : List Nat), (s.map fun (m : Nat) => (m : Int)).foldl (fun r n => r.push (UInt8.ofNat n.toNat)) (str r) = str (r ++ s) := by
  induction s with
  | nil => intro r; simp
  | cons m s ih =>
    intro r
    simp only [List.map_cons, List.foldl_cons]
    have : (str r).push (UInt8.ofNat (m : Int).toNat) = str (r ++ [m]) := by
      apply ByteArray.ext
      simp [str, ByteArray.push]
    rw [this, ih]
    simp
theorem str_nil : str [] = ByteArray.empty := rfl
theorem run_bounds {P : Program} {w : World} {s : Bool} {len cap l h m : Nat} {low high max : Option Value} (hm : (max = none ∧ m = cap) ∨ ∃ k, max = some (.int k m) ∧ m ≤ cap)
    (hh : (high = none ∧ max = none ∧ h = len) ∨ ∃ k, high = some (.int k h) ∧ h ≤ m) (hl : (low = none ∧ l = 0) ∨ ∃ k, low = some (.int k l) ∧ l ≤ h) :
    (Instr.sliceBounds s len cap low high max).run P w = .ok (l, h, m) w := by
  have hb : ∀ (k : IntKind) (i y : Nat) (code : BoundsCode), i ≤ y → (Instr.sliceBound (.int k i) y code).run P w = .ok i w := fun k i y code hi => by
    simp [Instr.sliceBound, asIntOf, hi]
  rcases hm with ⟨rfl, rfl⟩ | ⟨km, rfl, hm⟩ <;> rcases hh with ⟨rfl, h0, rfl⟩ | ⟨kh, rfl, hh⟩ <;> rcases hl with ⟨rfl, rfl⟩ | ⟨kl, rfl, hl⟩ <;> first
    | (exfalso; cases h0; done)
    | (simp [Instr.sliceBounds, Sem.run_bind, hb, *]; done)
theorem bnd_fin {nt : Nat} {t : TM} {lo : Option Operand} {o : Option OP} {n : Nat} {k : Nat → R} {v : V} {h : HP} {c : Nat} (ho : cOpt nt lo = .mk o) (H : bnd t o n k = .fin v h c) :
    ∃ m, k m = .fin v h c ∧ ((lo = none ∧ m = n) ∨ ((∃ x, lo = some x) ∧ ∀ (ρ : Rho) (a : Act), TR ρ nt t a.tmps → ∃ kk, lo.map a.eval = some (.int kk m))) := by
  cases lo with
  | none => cases ho; exact ⟨n, H, .inl ⟨rfl, rfl⟩⟩
  | some x =>
    have ho' : (match cOpd nt x with | .mk x => Bx.mk (some x) | .no => .no) = Bx.mk o := ho
    cases hy : cOpd nt x with
    | no => rw [hy] at ho'; cases ho'
    | mk y =>
      rw [hy] at ho'
      cases ho'
      obtain ⟨kk, m, e1, e2⟩ := asN_fin H
      exact ⟨m, e2, .inr ⟨⟨x, rfl⟩, fun ρ a hT => ⟨kd kk, by simp [nat_den e1 (opd_den hy hT)]⟩⟩⟩
section
variable {X : Spx} {P : Program} {nt : Nat} {o : Oper} {d : DS}
theorem snd_mkf {g : FuncId} {fs cs : Array Operand} {os ps : List OP} (hop : o.op = .makeFunc (.func g) fs cs) (hd : cDst nt o.dst = .mk d) (h1 : cOpds nt fs.toList = .mk os) (h2 : cOpds nt cs.toList = .mk ps) : VSnd X P nt d (fMkf d g os ps) o := by
  refine VSnd.of (by rw [hop]; simp) hd fun cal t h c df k v' h' c' e => ?_
  have e0 : rdL t os (fun fs => rdL t ps fun cs => d (.f g fs cs) t fun t => k t h c df) = .fin v' h' c' := e
  rw [rdL_eq, rdL_eq] at e0
  refine ⟨_, e0, fun w0 ρ a w hR hT => ⟨.func (.func g) (fs.map a.eval) (cs.map a.eval), ?_, ?_⟩⟩
  · have d1 := opds_den h1 hT
    have d2 := opds_den h2 hT
    simp only [den, d1, d2, Option.bind_some, Option.map_some, Option.some.injEq]
    congr 1 <;> (apply Array.ext'; simp)
  · simp [execOp, hop, Instr.makeFunc]
theorem snd_bs {s T E : TypeId} {x : Operand} {y : OP} (hop : o.op = .convert s T x) (hd : cDst nt o.dst = .mk d) (h1 : cOpd nt x = .mk y) (hs : und (types P) s = some (.slice E)) (hE : und (types P) E = some (.int .u8)) (hT : und (types P) T = some .string) : VSnd X P nt d (fBs d y) o := by
  have run : ∀ (a : Act) (w : World) b l q S, a.eval x = .slice b l q → (Conv.bytesToString (.slice b l q)).run P w = .ok (.string S) w → (execOp a.eval o).run P w = .ok (.value (.string S)) w := by
    intro a w b l q S hv hc
    simp only [execOp, hop, hv]
    rw [Sem.run_bind, run_convert_bytes_string w s T E b l q (und_under hs).1 (und_under hE).1 (und_under hT).1, hc]; rfl
  refine VSnd.of (by rw [hop]; simp) hd fun cal t h c df k v' h' c' e => ?_
  rcases asL_fin e with ⟨e1, e2⟩ | ⟨b, r, n, q, s', e1, e2⟩
  · refine ⟨_, e2, fun w0 ρ a w hR hTR => ⟨.string .empty, by simp [den, str_nil], ?_⟩⟩
    have hv := opd_den h1 hTR
    rw [e1] at hv
    simp only [den, Option.some.injEq] at hv
    exact run a w none 0 0 _ hv.symm (by simp [Conv.bytesToString])
  · obtain ⟨ty, m, q', z, u, e3, e4, e5⟩ := ldK_fin e2
    obtain ⟨l, e6, e7⟩ := byK_fin e5
    refine ⟨_, e6, fun w0 ρ a w hR hTR => ⟨.string (str l), by simp [den], ?_⟩⟩
    obtain ⟨p, d1, d2⟩ := sl_den e1 (opd_den h1 hTR)
    obtain ⟨vs, c1, c2, c3, c4⟩ := hR.cells (P := P) d1 e3 e4
    rw [e7 ρ vs c2] at c4
    refine run a w _ _ _ _ d2 ?_
    rw [run_bytesToString w _ n _ _ c4]
    have := push_str l []
    rw [str_nil] at this
    rw [this]; simp
theorem snd_mks {T E : Nat} {x y : Operand} {y1 y2 : OP} {l : List Value} {z : Z} (hop : o.op = .makeSlice T x y) (hd : cDst nt o.dst = .mk d) (h1 : cOpd nt x = .mk y1) (h2 : cOpd nt y = .mk y2) (hT : und (types P) T = some (.slice E)) (hz : zOf (types P) E = some l) (hzz : zer l = some z) (hl : l.length = siz (types P) E) (hpos : 0 < siz (types P) E) : OSnd X P nt (fMks d E (siz (types P) E) (byt (types P) E) z y1 y2) o := by
  refine OSnd.mem (by rw [hop]; simp) hd fun cal _ t h c df k v' h' c' e => ?_
  obtain ⟨k1, m, e1, e2⟩ := asN_fin e
  obtain ⟨k2, n, e3, e4⟩ := asN_fin e2
  obtain ⟨e5, e6⟩ := ifT_fin e4
  obtain ⟨e7, e8⟩ := ifT_fin e6
  obtain ⟨e9, e10⟩ := ifT_fin e8
  rw [fN_eq] at e10
  obtain ⟨e11, e12, e13⟩ := newC_fin e10
  refine ⟨_, _, _, e13, fun w0 ρ a w hR hTR => ?_⟩
  obtain ⟨i, zv, hi, hzv, hcl⟩ := zOf_zero hz
  obtain ⟨ie, hie, hs, hb⟩ := siz_pos hpos
  rw [hi] at hie; cases hie
  have d1 := nat_den e1 (opd_den h1 hTR)
  have d2 := nat_den e3 (opd_den h2 hTR)
  have hmn : m ≤ n := Nat.le_of_ble_eq_true e5
  have hn : n ≤ 281474976710656 := Nat.le_of_ble_eq_true e7
  have hw : byt (types P) E * n ≤ 281474976710656 := Nat.le_of_ble_eq_true e9
  have hcap : n * siz (types P) E ≤ (ce0 (n * siz (types P) E)).cap := e11
  have hsz : zv.cells.size = siz (types P) E := by rw [← hl, ← hcl]; simp
  have hC : CR ρ z (ce0 (n * siz (types P) E)) (n * siz (types P) E) (madeCells zv.cells (n * siz (types P) E)) := by
    intro j hj
    obtain ⟨v, g1, g2⟩ := zer_pat hzz ρ j (by omega)
    refine ⟨v, ?_, ?_⟩
    · unfold madeCells
      have hjl : j % l.length < l.length := Nat.mod_lt _ (by omega)
      have hzl : zv.cells = l.toArray := by rw [← hcl]
      rw [hzl]
      simp [hj]
      rw [List.getElem?_eq_getElem hjl] at g1
      simpa [hjl] using g1
    · unfold cell
      rw [orD_u (cget_ce0 _ _ (by omega))]; exact g2
  have hms : (madeCells zv.cells (n * siz (types P) E)).size = n * siz (types P) E := by simp [madeCells]
  obtain ⟨g1, g2, g3⟩ := hR.newC (ty := E) (κ := 0) (q := 0) e12 e11 (by rw [hms]; exact Nat.le_refl _) (fun _ => hms) (fun hh => absurd rfl hh) hC
  refine ⟨_, .slice (some ⟨w.heap.size, 0, none⟩) m n, _, g1, g2, by simp [den, up_self], g3, by omega, ?_⟩
  have hbytes : (i.bytes : Int) * (n : Int) ≤ 281474976710656 := by
    rw [← hb]
    have : ((byt (types P) E * n : Nat) : Int) ≤ 281474976710656 := by omega
    rwa [Int.natCast_mul] at this
  have hr := run_make (P := P) w T E i zv (und_under hT).1 hi hzv (kd k1) (kd k2) m n (by omega) (by omega) hbytes (by omega)
  simp only [Int.toNat_natCast] at hr
  rw [← hs] at hr
  simp only [execOp, hop, d1, d2]
  rw [Sem.run_bind, hr]; rfl
end
end Ev
end
section
namespace Ev
open Go Go.RowKit
set_option linter.unusedVariables false
set_option linter.unusedSimpArgs false
section
variable {X : Spx} {P : Program} {nt : Nat} {o : Oper} {d : DS}
theorem cOpt_none {lo : Option Operand} (h : cOpt nt lo = .mk none) : lo = none := by
  cases lo with
  | none => rfl
  | some x =>
    exfalso
    have h' : (match cOpd nt x with | .mk x => Bx.mk (some x) | .no => .no) = Bx.mk none := h
    cases hy : cOpd nt x <;> rw [hy] at h' <;> cases h'
theorem cOpt_some {lo : Option Operand} {y : OP} (h : cOpt nt lo = .mk (some y)) : ∃ x, lo = some x ∧ cOpd nt x = .mk y := by
  cases lo with
  | none => cases h
  | some x =>
    have h' : (match cOpd nt x with | .mk x => Bx.mk (some x) | .no => .no) = Bx.mk (some y) := h
    cases hy : cOpd nt x with
    | no => rw [hy] at h'; cases h'
    | mk y' => rw [hy] at h'; cases h'; exact ⟨x, rfl, hy⟩
theorem extract_str (l : List Nat) (a b : Nat) : (str l).extract a b = str ((l.drop a).take (b - a)) := by
  apply ByteArray.ext
  simp [str, ByteArray.data_extract, List.map_take, List.map_drop, List.extract_eq_take_drop]
theorem snd_sls {T : TypeId} {x : Operand} {lo hi : Option Operand} {y : OP} {ol oh : Option OP} (hop : o.op = .slice T x lo hi none) (hd : cDst nt o.dst = .mk d) (h1 : cOpd nt x = .mk y) (h2 : cOpt nt lo = .mk ol) (h3 : cOpt nt hi = .mk oh) (hT : und (types P) T = some .string) : VSnd X P nt d (fSls d y ol oh) o := by
  refine VSnd.of (by rw [hop]; simp) hd fun cal t h c df k v' h' c' e => ?_
  obtain ⟨s, e1, e2⟩ := asS_fin e
  obtain ⟨r, e3, e4⟩ := bnd_fin h3 e2
  obtain ⟨l, e5, e6⟩ := bnd_fin h2 e3
  obtain ⟨e7, e8⟩ := ifT_fin e5
  obtain ⟨e9, e10⟩ := ifT_fin e8
  rw [fL_eq, take_eq, drop_eq] at e10
  rw [len_eq] at e4 e9
  refine ⟨_, e10, fun w0 ρ a w hR hTR => ⟨.string ((str s).extract l r), by simp [den, extract_str], ?_⟩⟩
  have hv := str_den e1 (opd_den h1 hTR)
  have hlr : l ≤ r := Nat.le_of_ble_eq_true e7
  have hrs : r ≤ s.length := Nat.le_of_ble_eq_true e9
  have hb : (Instr.sliceBounds false (str s).size (str s).size (lo.map a.eval) (hi.map a.eval) none).run P w = .ok (l, r, (str s).size) w := by
    refine run_bounds (.inl ⟨rfl, rfl⟩) ?_ ?_
    · rcases e4 with ⟨rfl, rfl⟩ | ⟨⟨x, hx⟩, hk⟩
      · exact .inl ⟨rfl, rfl, (str_size s).symm⟩
      · obtain ⟨kk, hkk⟩ := hk ρ a hTR
        exact .inr ⟨kk, hkk, by rw [str_size]; exact hrs⟩
    · rcases e6 with ⟨rfl, rfl⟩ | ⟨⟨x, hx⟩, hk⟩
      · exact .inl ⟨rfl, rfl⟩
      · obtain ⟨kk, hkk⟩ := hk ρ a hTR
        exact .inr ⟨kk, hkk, hlr⟩
  simp only [execOp, hop, hv, Option.map_none, Instr.sliceAt, Instr.slice]
  simp [Sem.run_bind, run_underlying (und_under hT).1, hb]
theorem snd_slp {T E n : Nat} {x : Operand} {lo hi mx : Option Operand} {y : OP} {ol oh om : Option OP} (hop : o.op = .slice T x lo hi mx) (hd : cDst nt o.dst = .mk d) (h1 : cOpd nt x = .mk y) (h2 : cOpt nt lo = .mk ol) (h3 : cOpt nt hi = .mk oh) (h4 : cOpt nt mx = .mk om) (hhm : (oh.isNone && om.isSome) = false) (hT : und (types P) T = some (.array n E)) (hok : okI (types P) E = true) : VSnd X P nt d (fSlp d (siz (types P) E) n y ol oh om) o := by
  refine VSnd.of (by rw [hop]; simp) hd fun cal t h c df k v' h' c' e => ?_
  obtain ⟨b, r0, e1, e2⟩ := asP_fin e
  obtain ⟨l, e5, e6⟩ := bnd_fin h2 e2
  obtain ⟨r, e3, e4⟩ := bnd_fin h3 e5
  obtain ⟨m, e7, e8⟩ := bnd_fin h4 e3
  obtain ⟨e9, e10⟩ := ifT_fin e7
  obtain ⟨e11, e12⟩ := ifT_fin e10
  obtain ⟨e13, e14⟩ := ifT_fin e12
  rw [fN_eq, fN_eq, fN_eq] at e14
  have hlr : l ≤ r := Nat.le_of_ble_eq_true e9
  have hrm : r ≤ m := Nat.le_of_ble_eq_true e11
  have hmn : m ≤ n := Nat.le_of_ble_eq_true e13
  refine ⟨_, e14, fun w0 ρ a w hR hTR => ?_⟩
  obtain ⟨p, d1, d2⟩ := ptr_den e1 (opd_den h1 hTR)
  obtain ⟨D, hD⟩ := okI_some hok
  obtain ⟨ie, hie, hs, _⟩ := (und_under hD).2
  have hb : (Instr.sliceBounds false n n (lo.map a.eval) (hi.map a.eval) (mx.map a.eval)).run P w = .ok (l, r, m) w := by
    refine run_bounds ?_ ?_ ?_
    · rcases e8 with ⟨rfl, rfl⟩ | ⟨⟨x, hx⟩, hk⟩
      · exact .inl ⟨rfl, rfl⟩
      · obtain ⟨kk, hkk⟩ := hk ρ a hTR
        exact .inr ⟨kk, hkk, hmn⟩
    · rcases e4 with ⟨rfl, rfl⟩ | ⟨⟨x, hx⟩, hk⟩
      · refine .inl ⟨rfl, ?_, rfl⟩
        have : oh = none := by cases h3; rfl
        subst this
        cases om with
        | none => rw [cOpt_none h4]; rfl
        | some _ => simp at hhm
      · obtain ⟨kk, hkk⟩ := hk ρ a hTR
        exact .inr ⟨kk, hkk, hrm⟩
    · rcases e6 with ⟨rfl, rfl⟩ | ⟨⟨x, hx⟩, hk⟩
      · exact .inl ⟨rfl, rfl⟩
      · obtain ⟨kk, hkk⟩ := hk ρ a hTR
        exact .inr ⟨kk, hkk, hlr⟩
  have hadd : (if m = l then (⟨p.1, r0, none⟩ : Addr) else (⟨p.1, r0, none⟩ : Addr).add (l * ie.size)) = ⟨p.1, ifT (Nat.beq m l) r0 (r0 + l * ie.size), none⟩ := by
    by_cases hml : m = l
    · rw [if_pos hml, ifT_true (by rw [hml]; exact Nat.beq_refl l)]
    · rw [if_neg hml, ifT_false (by cases hb2 : Nat.beq m l with
        | false => rfl
        | true => exact absurd (Nat.eq_of_beq_eq_true hb2) hml), addr_add]
  refine ⟨.slice (some ⟨p.1, ifT (Nat.beq m l) r0 (r0 + l * ie.size), none⟩) (r - l) (m - l), by simp only [den, d1, Option.map_some, hs]; rfl, ?_⟩
  simp only [execOp, hop, d2, Instr.sliceAt]
  simp only [Sem.run_bind, run_underlying (und_under hT).1, Result.andThen_ok, Instr.sureAddr, Sem.run_pure, hb, run_sizeOf P hie, hadd]
theorem snd_sli {T E : Nat} {x : Operand} {lo hi mx : Option Operand} {y : OP} {ol oh om : Option OP} (hop : o.op = .slice T x lo hi mx) (hd : cDst nt o.dst = .mk d) (h1 : cOpd nt x = .mk y) (h2 : cOpt nt lo = .mk ol) (h3 : cOpt nt hi = .mk oh) (h4 : cOpt nt mx = .mk om) (hhm : (oh.isNone && om.isSome) = false) (hT : und (types P) T = some (.slice E)) (hok : okI (types P) E = true) : VSnd X P nt d (fSli d (siz (types P) E) y ol oh om) o := by
  obtain ⟨D, hD⟩ := okI_some hok
  obtain ⟨ie, hie, hs, _⟩ := (und_under hD).2
  have run : ∀ (a : Act) (w : World) b n cp l r m, a.eval x = .slice b n cp → (Instr.sliceBounds true n cp (lo.map a.eval) (hi.map a.eval) (mx.map a.eval)).run P w = .ok (l, r, m) w →
      (execOp a.eval o).run P w = .ok (.value (.slice (if m = l then b else b.map (·.add (l * ie.size))) (r - l) (m - l))) w := by
    intro a w b n cp l r m hv hb
    simp only [execOp, hop, hv, Instr.sliceAt, Instr.slice]
    simp only [Sem.run_bind, run_underlying (und_under hT).1, Result.andThen_ok, hb, run_sizeOf P hie, Sem.run_pure]
  refine VSnd.of (by rw [hop]; simp) hd fun cal t h c df k v' h' c' e => ?_
  rcases asL_fin e with ⟨e1, e2⟩ | ⟨b, r0, n, q, s, e1, e2⟩
  · obtain ⟨l, e5, e6⟩ := bnd_fin h2 e2
    obtain ⟨r, e3, e4⟩ := bnd_fin h3 e5
    cases om with
    | some _ => cases e3
    | none =>
      obtain ⟨e7, e8⟩ := ifT_fin e3
      obtain ⟨e9, e10⟩ := ifT_fin e8
      have hl : l = 0 := Nat.eq_of_beq_eq_true e7
      have hr : r = 0 := Nat.eq_of_beq_eq_true e9
      subst hl; subst hr
      have hmx := cOpt_none h4
      subst hmx
      refine ⟨_, e10, fun w0 ρ a w hR hTR => ⟨.slice none 0 0, by simp [den], ?_⟩⟩
      have hv := opd_den h1 hTR
      rw [e1] at hv
      simp only [den, Option.some.injEq] at hv
      have hb : (Instr.sliceBounds true 0 0 (lo.map a.eval) (hi.map a.eval) none).run P w = .ok (0, 0, 0) w := by
        refine run_bounds (.inl ⟨rfl, rfl⟩) ?_ ?_
        · rcases e4 with ⟨rfl, _⟩ | ⟨⟨x, hx⟩, hk⟩
          · exact .inl ⟨rfl, rfl, rfl⟩
          · obtain ⟨kk, hkk⟩ := hk ρ a hTR; exact .inr ⟨kk, hkk, Nat.le_refl _⟩
        · rcases e6 with ⟨rfl, _⟩ | ⟨⟨x, hx⟩, hk⟩
          · exact .inl ⟨rfl, rfl⟩
          · obtain ⟨kk, hkk⟩ := hk ρ a hTR; exact .inr ⟨kk, hkk, Nat.le_refl _⟩
      rw [run a w none 0 0 0 0 0 hv.symm hb]; rfl
  · obtain ⟨l, e5, e6⟩ := bnd_fin h2 e2
    obtain ⟨r, e3, e4⟩ := bnd_fin h3 e5
    obtain ⟨e7, e8⟩ := ifT_fin e3
    have hlr : l ≤ r := Nat.le_of_ble_eq_true e7
    have hlo : ∀ {ρ : Rho} {a : Act}, TR ρ nt t a.tmps → (lo.map a.eval = none ∧ l = 0) ∨ ∃ k, lo.map a.eval = some (.int k l) ∧ l ≤ r := by
      intro ρ a hTR
      rcases e6 with ⟨rfl, rfl⟩ | ⟨⟨x, hx⟩, hk⟩
      · exact .inl ⟨rfl, rfl⟩
      · obtain ⟨kk, hkk⟩ := hk ρ a hTR; exact .inr ⟨kk, hkk, hlr⟩
    cases s with
    | false =>
      obtain ⟨m, e9, e10⟩ := bnd_fin h4 e8
      obtain ⟨e11, e12⟩ := ifT_fin e9
      obtain ⟨e13, e14⟩ := ifT_fin e12
      rw [fN_eq, fN_eq, fN_eq] at e14
      have hrm : r ≤ m := Nat.le_of_ble_eq_true e11
      have hmn : m ≤ q := Nat.le_of_ble_eq_true e13
      refine ⟨_, e14, fun w0 ρ a w hR hTR => ?_⟩
      obtain ⟨p, d1, d2⟩ := sl_den e1 (opd_den h1 hTR)
      have hb : (Instr.sliceBounds true n q (lo.map a.eval) (hi.map a.eval) (mx.map a.eval)).run P w = .ok (l, r, m) w := by
        refine run_bounds ?_ ?_ (hlo hTR)
        · rcases e10 with ⟨rfl, rfl⟩ | ⟨⟨x, hx⟩, hk⟩
          · exact .inl ⟨rfl, rfl⟩
          · obtain ⟨kk, hkk⟩ := hk ρ a hTR; exact .inr ⟨kk, hkk, hmn⟩
        · rcases e4 with ⟨rfl, rfl⟩ | ⟨⟨x, hx⟩, hk⟩
          · refine .inl ⟨rfl, ?_, rfl⟩
            have : oh = none := by cases h3; rfl
            subst this
            cases om with
            | none => rw [cOpt_none h4]; rfl
            | some _ => simp at hhm
          · obtain ⟨kk, hkk⟩ := hk ρ a hTR; exact .inr ⟨kk, hkk, hrm⟩
      have hadd : (if m = l then some (⟨p.1, r0, none⟩ : Addr) else (some (⟨p.1, r0, none⟩ : Addr)).map (·.add (l * ie.size))) = some ⟨p.1, ifT (Nat.beq m l) r0 (r0 + l * ie.size), none⟩ := by
        by_cases hml : m = l
        · rw [if_pos hml, ifT_true (by rw [hml]; exact Nat.beq_refl l)]
        · rw [if_neg hml, ifT_false (by cases hb2 : Nat.beq m l with
            | false => rfl
            | true => exact absurd (Nat.eq_of_beq_eq_true hb2) hml), Option.map_some, addr_add]
      refine ⟨.slice (some ⟨p.1, ifT (Nat.beq m l) r0 (r0 + l * ie.size), none⟩) (r - l) (m - l), by simp only [den, d1, Option.map_some, hs]; rfl, ?_⟩
      rw [run a w _ _ _ _ _ _ d2 hb, hadd]
    | true =>
      obtain ⟨ty, mb, q', z, u, g1, g2⟩ := blk_fin e8
      obtain ⟨g3, g4⟩ := ifT_fin g2
      obtain ⟨g5, g6⟩ := ifT_fin g4
      obtain ⟨g7, g8⟩ := ifT_fin g6
      obtain ⟨g9, g10⟩ := ifT_fin g8
      obtain ⟨g11, g12⟩ := ifT_fin g10
      cases om with
      | some _ => cases g12
      | none =>
        have hmx := cOpt_none h4
        subst hmx
        have hq' : q' = siz (types P) E := Nat.eq_of_beq_eq_true g3
        have hqm : (q + n) * siz (types P) E ≤ mb := Nat.le_of_ble_eq_true g7
        have hrn : r ≤ n := Nat.le_of_ble_eq_true g9
        have hpos : 0 < siz (types P) E := Nat.le_of_ble_eq_true g11
        have key : ∀ {w0 ρ} {a : Act} {w}, HR X P w0 ρ h c w → TR ρ nt t a.tmps → ∃ p, ρ b = some p ∧ q + n ≤ p.2 ∧ a.eval x = .slice (some ⟨p.1, r0, none⟩) n (p.2 - q) ∧ (Instr.sliceBounds true n (p.2 - q) (lo.map a.eval) (hi.map a.eval) none).run P w = .ok (l, r, p.2 - q) w := by
          intro w0 ρ a w hR hTR
          obtain ⟨p, d1, d2⟩ := sl_den e1 (opd_den h1 hTR)
          obtain ⟨cs, _, _, k3, _, k5, _⟩ := hR.row d1 g1
          have hsz := k5 (by omega)
          have hle : q + n ≤ p.2 := by
            rw [hq'] at hsz
            have : (q + n) * siz (types P) E ≤ p.2 * siz (types P) E := by omega
            exact Nat.le_of_mul_le_mul_right this hpos
          refine ⟨p, d1, hle, d2, run_bounds (.inl ⟨rfl, rfl⟩) ?_ (hlo hTR)⟩
          rcases e4 with ⟨rfl, rfl⟩ | ⟨⟨x, hx⟩, hk⟩
          · exact .inl ⟨rfl, rfl, rfl⟩
          · obtain ⟨kk, hkk⟩ := hk ρ a hTR; exact .inr ⟨kk, hkk, by omega⟩
        cases hl0 : Nat.beq l 0 with
        | true =>
          have g12' : (d (.sl b r0 r q true) t fun t => k t h c df) = .fin v' h' c' := by have := g12; simp only [hl0] at this; exact this
          have hl : l = 0 := Nat.eq_of_beq_eq_true hl0
          subst hl
          refine ⟨_, g12', fun w0 ρ a w hR hTR => ?_⟩
          obtain ⟨p, d1, hle, d2, hb⟩ := key hR hTR
          refine ⟨.slice (some ⟨p.1, r0, none⟩) r (p.2 - q), by simp [den, d1], ?_⟩
          rw [run a w _ _ _ _ _ _ d2 hb]
          have : (if p.2 - q = 0 then some (⟨p.1, r0, none⟩ : Addr) else (some (⟨p.1, r0, none⟩ : Addr)).map (·.add (0 * ie.size))) = some ⟨p.1, r0, none⟩ := by
            split
            · rfl
            · simp [addr_add]
          rw [this]; rfl
        | false =>
          have g12' : ifT (Nat.blt l n) (fN (Nat.add r0 (Nat.mul l (siz (types P) E))) fun o => fN (Nat.sub r l) fun r => fN (Nat.add q l) fun e => d (.sl b o r e true) t fun t => k t h c df) (.bad 53) = .fin v' h' c' := by have := g12; simp only [hl0] at this; exact this
          obtain ⟨g13, g14⟩ := ifT_fin g12'
          rw [fN_eq, fN_eq, fN_eq] at g14
          have hln : l < n := Nat.le_of_ble_eq_true g13
          refine ⟨_, g14, fun w0 ρ a w hR hTR => ?_⟩
          obtain ⟨p, d1, hle, d2, hb⟩ := key hR hTR
          refine ⟨.slice (some ⟨p.1, r0 + l * ie.size, none⟩) (r - l) (p.2 - q - l), ?_, ?_⟩
          · have : p.2 - (q + l) = p.2 - q - l := by omega
            simp only [den, d1, Option.map_some, if_true]
            rw [hs]
            show some (Value.slice (some ⟨p.1, r0 + l * ie.size, none⟩) (r - l) (p.2 - (q + l))) = _
            rw [this]
          · rw [run a w _ _ _ _ _ _ d2 hb, if_neg (by omega), Option.map_some, addr_add]
end
end Ev
end
section
namespace Ev
open Go Go.RowKit
set_option linter.unusedVariables false
set_option linter.unusedSimpArgs false
section
variable {X : Spx} {P : Program} {w0 : Base} {w w' : World} {ρ ρ' : Rho} {h : HP} {c : Nat}
/-- a row that goes on under another number, in its place -/
theorem HR.take (H : HR X P w0 ρ h c w) {a : Nat} {p : Nat × Nat} {b : Blk} (hc : c ≤ 65535) (ha : ρ a = some p) (hx : hget h a ≠ .x) (hsp : ∀ s, hget h a ≠ .sp s) (hbx : b ≠ .x) (hs : ∀ s, b ≠ .sp s)
    (hsz : w'.heap.size = w.heap.size) (hos : w'.os = w.os) (hta : w'.tape = w.tape) (hou : w'.output = w.output) (hw : ∀ k, k ≠ p.1 → w'.heap[k]? = w.heap[k]?) (hB : BR X P (up ρ c p) c w' b) : HR X P w0 (up ρ c p) (Ev.hs (Ev.hs h a .x) c b) (c + 1) w' := by
  have hac := (H.dom a p ha).1
  have hle := H.le
  have hg : ∀ k, k < c + 1 → hget (Ev.hs (Ev.hs h a .x) c b) k = if k = c then b else if k = a then .x else hget h k := fun k hk => by
    rw [hget_hs b _ (by omega) (by omega)]
    split
    · rfl
    · rw [hget_hs .x h (by omega) (by omega)]
  have hdom : ∀ k q, up ρ c p k = some q → (k = c ∧ q = p) ∨ (k ≠ c ∧ ρ k = some q) := fun k q hk => by
    unfold up at hk
    split at hk
    · exact .inl ⟨by assumption, (Option.some.inj hk).symm⟩
    · exact .inr ⟨by assumption, hk⟩
  have hFt : ∀ k s A, k < c → hget h k = .sp s → ρ k = some A → X.In A.1 s w' ∧ ∀ j, X.Ft A.1 w' j ↔ X.Ft A.1 w j := fun k s A hk hb hA => by
    have := H.blk k hk; rw [hb] at this
    obtain ⟨q, h1, h2⟩ := this
    rw [hA] at h1; cases h1
    refine X.mv h2 fun j hj => hw j fun e => ?_
    exact H.sep k s A hb hA a p hx (fun e2 => hsp s (e2 ▸ hb)) ha (e ▸ hj)
  have hold : ∀ k q, k ≠ c → ρ k = some q → hget (Ev.hs (Ev.hs h a .x) c b) k ≠ .x → k ≠ a ∧ hget h k ≠ .x := fun k q hk hq hxx => by
    have := (H.dom k q hq).1
    rw [hg k (by omega), if_neg hk] at hxx
    split at hxx
    · exact absurd rfl hxx
    · exact ⟨by assumption, hxx⟩
  refine ⟨⟨hos.trans H.bel.os, hta.trans H.bel.tape, hou.trans H.bel.output, by rw [hsz]; exact H.bel.size, fun k hk => (hw k fun e => (H.dom a p ha).2.1 hx (e ▸ hk)).trans (H.bel.block k hk)⟩, by omega, fun k q hk => ?_, fun k k' q q' hk hk' hx1 hx2 e => ?_, fun k hk => ?_, fun k s A hb' hA k' p' hx' hne hk' => ?_, H.one.of (fun k s A hk hA => ?_) (fun j hj => .inl hj), H.noc_up _⟩
  · rw [hsz]
    rcases hdom k q hk with ⟨rfl, rfl⟩ | ⟨h1, h2⟩
    · have := H.dom a q ha; exact ⟨by omega, fun _ => this.2.1 hx, this.2.2⟩
    · have := H.dom k q h2; exact ⟨by omega, fun hxx => this.2.1 (hold k q h1 h2 hxx).2, this.2.2⟩
  · rcases hdom k q hk with ⟨rfl, rfl⟩ | ⟨h1, h2⟩ <;> rcases hdom k' q' hk' with ⟨rfl, rfl⟩ | ⟨h3, h4⟩
    · rfl
    · obtain ⟨g1, g2⟩ := hold _ _ h3 h4 hx2
      exact absurd (H.inj k' a q' q h4 ha g2 hx e.symm) g1
    · obtain ⟨g1, g2⟩ := hold _ _ h1 h2 hx1
      exact absurd (H.inj k a q q' h2 ha g2 hx e) g1
    · exact H.inj k k' q q' h2 h4 (hold _ _ h1 h2 hx1).2 (hold _ _ h3 h4 hx2).2 e
  · rw [hg k hk]
    split
    · rename_i e; subst e; exact hB
    · rename_i hne
      split
      · trivial
      · rename_i hna
        have hk' : k < c := by omega
        by_cases hkx : hget h k = .x
        · rw [hkx]; trivial
        · refine (H.blk k hk').mono (H.le_up _) (fun q hq => hw _ fun e => hna (H.inj k a q p hq ha hkx hx e)) fun s q hsq hq hI => ?_
          exact (hFt k s q hk' hsq hq).1
  · have hkc : k < c + 1 := by
      rcases hdom k A hA with ⟨rfl, _⟩ | ⟨_, h2⟩
      · omega
      · have := (H.dom _ _ h2).1; omega
    have hb2 := hb'
    rw [hg k hkc] at hb'
    split at hb'
    · exact absurd hb' (hs s)
    · rename_i hkne
      split at hb'
      · cases hb'
      · rename_i hka
        rcases hdom k A hA with ⟨e, _⟩ | ⟨_, hA2⟩
        · exact absurd e hkne
        · have hlt := (H.dom _ _ hA2).1
          rw [(hFt k s A hlt hb' hA2).2]
          rcases hdom k' p' hk' with ⟨rfl, rfl⟩ | ⟨h3, h4⟩
          · exact H.sep k s A hb' hA2 a p' hx (fun e => hka e.symm) ha
          · exact H.sep k s A hb' hA2 k' p' (hold _ _ h3 h4 hx').2 hne h4
  · rcases hdom k A hA with ⟨e, _⟩ | ⟨hkc, hA2⟩
    · rw [e, hg c (by omega), if_pos rfl] at hk; exact absurd hk (hs s)
    · have hlt := (H.dom _ _ hA2).1
      rw [hg k (by omega), if_neg hkc] at hk
      split at hk
      · cases hk
      · exact ⟨hk, hA2, fun j => ((hFt k s A hlt hk hA2).2 j).1⟩
end
theorem intL_den {ρ : Rho} : ∀ (l : List Nat), denL ρ (intL l) = some (l.map fun m => Value.int .u8 ((UInt8.ofNat m).toNat : Int))
  | [] => by simp [intL, denL]
  | m :: l => by
    show denL ρ (V.i 4 (m % 256) :: intL l) = _
    refine denL_cons.2 ⟨_, _, rfl, ?_, intL_den l⟩
    simp [den]; rfl
/-- what is copied, or appended -/
theorem srcK_fin {h : HP} {q : Nat} {n0 : Option Nat} {v : V} {k : Nat → List V → R} {v' : V} {h' : HP} {c' : Nat} (e : srcK h q n0 v k = .fin v' h' c') :
    ∃ n l, k n l = .fin v' h' c' ∧ ∀ {X P w0 ρ c w x}, HR X P w0 ρ h c w → den ρ v = some x → ∃ vs N, denL ρ l = some vs ∧ (Builtin.lenOf x).run P w = .ok N w ∧ n = (match n0 with | none => N | some m => Nat.min N m) ∧
      ∀ w', w'.heap = w.heap → (Builtin.firstCells q n x).run P w' = .ok vs.toArray w' := by
  have hmin : ∀ a b : Nat, ifT (Nat.ble a b) a b = Nat.min a b := fun a b => by
    cases hb : Nat.ble a b with
    | true => rw [ifT_true rfl]; exact (Nat.min_eq_left (Nat.le_of_ble_eq_true hb)).symm
    | false => rw [ifT_false rfl]; exact (Nat.min_eq_right (Nat.le_of_lt (ble_false.1 hb))).symm
  cases v with
  | s l =>
    have e' : fN (Option.rec (motive := fun _ => Nat) (len l) (fun m => ifT (Nat.ble (len l) m) (len l) m) n0) (fun m => k m (intL (take m l))) = .fin v' h' c' := e
    rw [fN_eq] at e'
    refine ⟨_, _, e', fun {X P w0 ρ c w x} hR hx => ?_⟩
    have hxs := str_den rfl hx
    refine ⟨_, l.length, intL_den _, by rw [hxs]; simp [Builtin.lenOf, str_size], ?_, fun w' hw' => ?_⟩
    · cases n0 with
      | none => rw [← len_eq]
      | some m => show ifT (Nat.ble (len l) m) (len l) m = _; rw [hmin, len_eq]
    · rw [hxs]
      have key : ∀ N, ((str l).extract 0 N).data.map (fun b => Value.int .u8 (b.toNat : Int)) = ((l.take N).map fun m => Value.int .u8 ((UInt8.ofNat m).toNat : Int)).toArray := by
        intro N
        rw [extract_str]
        apply Array.ext'
        simp only [str, List.drop_zero, Nat.sub_zero, Array.toList_map, List.map_map]
        rfl
      simp only [Builtin.firstCells, Sem.run_pure, take_eq, key]
  | ns =>
    refine ⟨0, [], e, fun {X P w0 ρ c w x} hR hx => ?_⟩
    simp only [den, Option.some.injEq] at hx
    subst hx
    refine ⟨[], 0, by simp [denL], by simp [Builtin.lenOf], by cases n0 <;> simp, fun w' _ => by simp [Builtin.firstCells]⟩
  | sl a o r e0 s0 =>
    have e' : fN (Option.rec (motive := fun _ => Nat) r (fun m => ifT (Nat.ble r m) r m) n0) (fun m => ldK h a o (Nat.mul m q) fun l => k m l) = .fin v' h' c' := e
    rw [fN_eq] at e'
    obtain ⟨ty, m, q', z, t, g1, g2, g3⟩ := ldK_fin e'
    refine ⟨_, _, g3, fun {X P w0 ρ c w x} hR hx => ?_⟩
    obtain ⟨p, d1, d2⟩ := sl_den rfl hx
    obtain ⟨vs, c1, c2, c3, c4⟩ := hR.cells (P := P) d1 g1 g2
    refine ⟨vs, r, c2, by rw [d2]; simp [Builtin.lenOf], ?_, fun w' hw' => ?_⟩
    · cases n0 with
      | none => rfl
      | some m => show ifT (Nat.ble r m) r m = _; rw [hmin]
    · rw [d2]
      simp only [Builtin.firstCells]
      have := run_loadCells_list (P := P) w' ⟨p.1, o, none⟩ vs (fun j v hj => by
        have := c3 j v hj
        simp only [World.cell?] at this ⊢
        rw [hw']; exact this)
      rw [c1] at this
      exact this
  | _ => cases e
section
variable {X : Spx} {P : Program} {nt : Nat} {o : Oper} {d : DS}
theorem snd_cpy {T E : Nat} {tt2 : TypeId} {x y : Operand} {y1 y2 : OP} {cc : Call} (hop : o.op = .call cc) (hcc : cc.callee = .builtin .copy) (ha : cc.args.toList = [x, y]) (hat : cc.argTypes.toList = [T, tt2]) (hd : cDst nt o.dst = .mk d) (h1 : cOpd nt x = .mk y1) (h2 : cOpd nt y = .mk y2) (hT : und (types P) T = some (.slice E)) (hok : okI (types P) E = true) : OSnd X P nt (fCpy d (siz (types P) E) y1 y2) o := by
  have ha' : cc.args = #[x, y] := Array.toList_inj.1 (by simpa using ha)
  have hat' : cc.argTypes = #[T, tt2] := Array.toList_inj.1 (by simpa using hat)
  obtain ⟨D, hD⟩ := okI_some hok
  obtain ⟨ie, hie, hs, _⟩ := (und_under hD).2
  have run : ∀ (a : Act) (w w' : World) b dLen dCap N vs, a.eval x = .slice b dLen dCap → (Builtin.lenOf (a.eval y)).run P w = .ok N w → (Builtin.firstCells ie.size (Nat.min N dLen) (a.eval y)).run P w = .ok vs w →
      (match b with | some p => (storeCells p vs.toList).run P w = .ok () w' | none => w' = w) → (execOp a.eval o).run P w = .ok (.value (.int .i64 (Nat.min N dLen))) w' := by
    intro a w w' b dLen dCap N vs hx hN hv hst
    simp only [execOp, hop, resolve, hcc, ha', hat', invoke, builtin]
    cases b with
    | none =>
      simp only at hst; subst hst
      simp [Builtin.copy_, run_underlying (und_under hT).1, run_sizeOf P hie, hx, hN, hv, goInt]
    | some p =>
      simp only at hst
      simp [Builtin.copy_, run_underlying (und_under hT).1, run_sizeOf P hie, hx, hN, hv, hst, goInt]
  refine OSnd.mem (by rw [hop]; simp) hd fun cal _ t h c df k v' h' c' e => ?_
  rcases asL_fin e with ⟨e1, e2⟩ | ⟨b, r0, m, q, s, e1, e2⟩
  · obtain ⟨n, l, e3, e4⟩ := srcK_fin e2
    refine ⟨_, _, _, e3, fun w0 ρ a w hR hTR => ⟨ρ, .int .i64 0, w, Le.refl _, hR, by simp [den]; rfl, Kp.refl _ _, Nat.le_refl _, ?_⟩⟩
    obtain ⟨vs, N, g1, g2, g3, g4⟩ := e4 hR (opd_den h2 hTR)
    have hv := opd_den h1 hTR
    rw [e1] at hv
    simp only [den, Option.some.injEq] at hv
    have hz : n = Nat.min N 0 := g3
    have hm0 : Nat.min N 0 = 0 := Nat.min_zero N
    have := run a w w none 0 0 N vs.toArray hv.symm g2 (by rw [← hs, ← hz]; exact g4 w rfl) rfl
    rw [hm0] at this
    exact this
  · obtain ⟨n, l, e3, e4⟩ := srcK_fin e2
    obtain ⟨ty, m', q', z, u, e5, e6⟩ := blk_fin e3
    obtain ⟨e7, e8⟩ := ifT_fin e6
    obtain ⟨u', e9, e10, e11, e12⟩ := stK_fin e8
    rw [hset_eq] at e9
    refine ⟨_, _, _, e9, fun w0 ρ a w hR hTR => ?_⟩
    obtain ⟨vs, N, g1, g2, g3, g4⟩ := e4 hR (opd_den h2 hTR)
    obtain ⟨p, d1, d2⟩ := sl_den e1 (opd_den h1 hTR)
    have hle : r0 + l.length ≤ m' := by rw [← len_eq]; exact Nat.le_of_ble_eq_true e7
    obtain ⟨w', s1, s2⟩ := hR.store d1 e5 g1 e10 hle
    have hcap : r0 + l.length ≤ u.cap := by obtain ⟨_, _, k2, _⟩ := hR.row d1 e5; omega
    rw [← e12 hcap] at s2
    refine ⟨ρ, .int .i64 (n : Int), w', Le.refl _, s2, by simp [den]; rfl, Kp.hs hR.le (by have := (hR.dom _ _ d1).1; have := hR.le; omega) (fun _ hh => by rw [e5] at hh; cases hh), Nat.le_refl _, ?_⟩
    have hz : n = Nat.min N m := g3
    have := run a w w' _ m _ N vs.toArray d2 g2 (by rw [← hs, ← hz]; exact g4 w rfl) (by simpa using s1)
    rw [← hz] at this
    exact this
end
end Ev
end
section
namespace Ev
open Go Go.RowKit
set_option linter.unusedVariables false
set_option linter.unusedSimpArgs false
theorem growBy_le (L B : Nat) (hB : L + (L + 768) / 4 ≤ B) : ∀ (r c : Nat), c ≤ B → Builtin.growBy L r c ≤ B
  | 0, c, h => h
  | r + 1, c, h => by
    unfold Builtin.growBy
    split
    · exact h
    · rename_i hlt
      exact growBy_le L B hB r _ (by omega)
theorem nsc_le {need cap : Nat} (h : cap < need) : Builtin.nextslicecap need cap ≤ 2 * need + 1000 := by
  unfold Builtin.nextslicecap
  split
  · omega
  · split
    · omega
    · exact growBy_le need _ (by omega) 4 cap (by omega)
section
variable {P : Program} {T U E ty : TypeId} {i : TypeInfo} {z X Y : Value} {n sLen sCap : Nat} {w : World} {vs : List Value}
theorem run_app_in {base : Option Addr} {w' : World} (hT : P.underlying T = some (.slice E)) (hU : (∃ e, P.underlying U = some (.slice e)) ∨ P.underlying U = some .string) (hi : P.info? E = some i) (hn : (Builtin.lenOf Y).run P w = .ok n w) (hv : (Builtin.firstCells i.size n Y).run P w = .ok vs.toArray w)
    (hle : sLen + n ≤ sCap) (hst : match base with | some p => (storeCells (p.add (sLen * i.size)) vs).run P w = .ok () w' | none => w' = w) :
    (Builtin.append_ #[T, U] ty #[.slice base sLen sCap, Y]).run P w = .ok (.slice base (sLen + n) sCap) w' := by
  have hz : ∀ D, P.underlying U = some D → (match D with | .int _ => true | _ => false) = false → True := fun _ _ _ => trivial
  rcases hU with ⟨e, hU⟩ | hU <;> cases base with
  | none => simp only at hst; subst hst; simp [Builtin.append_, run_underlying hT, run_underlying hU, Ev.run_sizeOf P hi, hn, hv, hle]
  | some p => simp only at hst; simp [Builtin.append_, run_underlying hT, run_underlying hU, Ev.run_sizeOf P hi, hn, hv, hle, hst]
theorem run_app_new {base : Option Addr} {os : List Value} (hT : P.underlying T = some (.slice E)) (hU : (∃ e, P.underlying U = some (.slice e)) ∨ P.underlying U = some .string) (hi : P.info? E = some i) (hz : i.zero = some z) (hn : (Builtin.lenOf Y).run P w = .ok n w)
    (hv : (Builtin.firstCells i.size n Y).run P w.drew = .ok vs.toArray w.drew) (ho : (Builtin.firstCells i.size sLen (.slice base sLen sCap)).run P w.drew = .ok os.toArray w.drew) (hlt : sCap < sLen + n) (hb : 0 < i.bytes) (hbig : (2 * (sLen + n) + 1000) * i.bytes ≤ 281474976710656) :
    (Builtin.append_ #[T, U] ty #[.slice base sLen sCap, Y]).run P w =
      .ok (.slice (some ⟨w.heap.size, 0, none⟩) (sLen + n) (grownCap w (sLen + n) sCap E)) (w.drew.alloc (.cells (os.toArray ++ vs.toArray ++ Builtin.zeroCells z.cells (grownCap w (sLen + n) sCap E - (sLen + n))) E)) := by
  have h1 : ¬ (sLen + n ≤ sCap) := by omega
  have h2 : ¬ i.bytes = 0 := by omega
  have h3 : ¬ (281474976710656 < Builtin.nextslicecap (sLen + n) sCap * i.bytes) := by
    have := Nat.mul_le_mul_right i.bytes (nsc_le hlt)
    omega
  rcases hU with ⟨e, hU⟩ | hU <;> simp [Builtin.append_, run_underlying hT, run_underlying hU, Ev.run_sizeOf P hi, typeInfo, zeroValue, hi, hz, hn, h1, h2, h3, Question.forced, hv, ho, newRow, grownCap] <;> (congr 2; apply Array.ext'; simp [List.append_assoc])
end
theorem grown_le (w : World) (need old : Nat) (e : TypeId) : need ≤ grownCap w need old e := by unfold grownCap Question.cut; simp
theorem size_zeroCells (z : Array Value) (n : Nat) : (Builtin.zeroCells z n).size = n * z.size := by simp [Builtin.zeroCells]
section
variable {X : Spx} {P : Program} {nt : Nat} {o : Oper} {d : DS}
theorem HR.drew {w0 : Base} {w : World} {ρ : Rho} {h : HP} {c : Nat} (H : HR X P w0 ρ h c w) : HR X P w0 ρ h c w.drew := H.same rfl rfl rfl rfl
theorem snd_app {T U E : Nat} {x y : Operand} {y1 y2 : OP} {cc : Call} {zl : List Value} (hop : o.op = .call cc) (hcc : cc.callee = .builtin .append) (ha : cc.args.toList = [x, y]) (hat : cc.argTypes.toList = [T, U]) (hd : cDst nt o.dst = .mk d) (h1 : cOpd nt x = .mk y1) (h2 : cOpd nt y = .mk y2) (hT : und (types P) T = some (.slice E))
    (hU : (∃ e, und (types P) U = some (.slice e)) ∨ und (types P) U = some .string) (hz : zOf (types P) E = some zl) (hpos : 0 < siz (types P) E) (hbp : 0 < byt (types P) E) (hzl : zl.length = siz (types P) E) : OSnd X P nt (fApp d E (siz (types P) E) (byt (types P) E) y1 y2) o := by
  have ha' : cc.args = #[x, y] := Array.toList_inj.1 (by simpa using ha)
  have hat' : cc.argTypes = #[T, U] := Array.toList_inj.1 (by simpa using hat)
  obtain ⟨i, zv, hi, hzv, hcl⟩ := zOf_zero hz
  obtain ⟨ie, hie, hs, hb⟩ := siz_pos hpos
  rw [hi] at hie; cases hie
  have hU' : (∃ e, P.underlying U = some (.slice e)) ∨ P.underlying U = some .string := hU.imp (fun ⟨e, h⟩ => ⟨e, (und_under h).1⟩) fun h => (und_under h).1
  have hzs : zv.cells.size = i.size := by rw [← hs, ← hzl, ← hcl]; simp
  have exe : ∀ (a : Act) (w w' : World) (r : Value), (Builtin.append_ #[T, U] o.type #[a.eval x, a.eval y]).run P w = .ok r w' → (execOp a.eval o).run P w = .ok (.value r) w' := by
    intro a w w' r hr
    simp only [execOp, hop, resolve, hcc, ha', hat', invoke, builtin]
    simp [hr]
  refine OSnd.mem (by rw [hop]; simp) hd fun cal _ t h c df k v' h' c' e => ?_
  obtain ⟨n, l, e1, e2⟩ := srcK_fin e
  obtain ⟨e3, e4⟩ := ifT_fin e1
  have hln : l.length = n * siz (types P) E := by rw [← len_eq]; exact Nat.eq_of_beq_eq_true e3
  rcases asL_fin e4 with ⟨e5, e6⟩ | ⟨b, r0, m, ec, s, e5, e6⟩
  · -- none yet
    have nilv : ∀ {ρ : Rho} {a : Act}, TR ρ nt t a.tmps → a.eval x = .slice none 0 0 := by
      intro ρ a hTR
      have hv := opd_den h1 hTR
      rw [e5] at hv
      simp only [den, Option.some.injEq] at hv
      exact hv.symm
    cases n with
    | zero =>
      refine ⟨.ns, h, c, e6, fun w0 ρ a w hR hTR => ⟨ρ, .slice none 0 0, w, Le.refl _, hR, by simp [den], Kp.refl _ _, Nat.le_refl _, ?_⟩⟩
      obtain ⟨vs, N, g1, g2, g3, g4⟩ := e2 hR (opd_den h2 hTR)
      have hN : N = 0 := g3.symm
      subst hN
      refine exe a w w _ ?_
      rw [nilv hTR]
      exact run_app_in (base := none) (und_under hT).1 hU' hi g2 (by rw [← hs]; exact g4 w rfl) (Nat.le_refl _) rfl
    | succ n =>
      obtain ⟨e7, e8⟩ := ifT_fin (show ifT _ _ _ = _ from e6)
      obtain ⟨u, e9, e10, e11, e12⟩ := stK_fin (o := 0) e8
      rw [fN_eq] at e9
      obtain ⟨f1, f2, f3⟩ := newC_fin e9
      refine ⟨_, _, _, f3, fun w0 ρ a w hR hTR => ?_⟩
      obtain ⟨vs, N, g1, g2, g3, g4⟩ := e2 hR (opd_den h2 hTR)
      have hN : N = n + 1 := g3.symm
      subst hN
      have hvl : vs.length = (n + 1) * i.size := by rw [denL_length g1, hln, hs]
      have hmul : Nat.mul (n + 1) (siz (types P) E) = (n + 1) * siz (types P) E := rfl
      have hcapu : (n + 1) * siz (types P) E ≤ u.cap := f1
      have hu := e12 (by rw [← e11]; omega)
      have hgl := grown_le w (0 + (n + 1)) 0 E
      have hC : CR ρ (.c .u) u ((n + 1) * siz (types P) E) (([] : List Value).toArray ++ vs.toArray ++ Builtin.zeroCells zv.cells (grownCap w (0 + (n + 1)) 0 E - (0 + (n + 1)))) := by
        rw [hu]
        refine CR.sets (n := 0) (cs := #[]) (fun i hi => by omega) g1 e10 (by rw [← e11]; omega) (by rw [← e11]; exact hcapu) fun j hj => ?_
        rw [if_pos ⟨by omega, by omega⟩]
        simp only [List.append_toArray, List.nil_append, Nat.sub_zero]
        rw [Array.getElem?_append_left (by simp; rw [hvl, ← hs]; omega)]
        simp
      have hsz : (([] : List Value).toArray ++ vs.toArray ++ Builtin.zeroCells zv.cells (grownCap w (0 + (n + 1)) 0 E - (0 + (n + 1)))).size = grownCap w (0 + (n + 1)) 0 E * siz (types P) E := by
        simp only [Array.size_append, List.size_toArray, List.length_nil, size_zeroCells, hvl, hzs, hs]
        rw [Nat.sub_mul]
        have := Nat.mul_le_mul_right i.size hgl
        simp only [Nat.zero_add] at this ⊢; omega
      obtain ⟨k1, k2, k3⟩ := (hR.drew).newC (ty := E) (κ := grownCap w (0 + (n + 1)) 0 E) (q := siz (types P) E) f2 f1 (by rw [hsz]; exact Nat.mul_le_mul_right _ (by omega)) (fun hh => by omega) (fun _ => hsz) hC
      refine ⟨_, .slice (some ⟨w.heap.size, 0, none⟩) (n + 1) (grownCap w (0 + (n + 1)) 0 E), _, k1, k2, ?_, k3, by omega, ?_⟩
      · simp only [den, up_self, Option.map_some, if_true]; rfl
      · refine exe a w _ _ ?_
        rw [nilv hTR]
        have hbig : (2 * (0 + (n + 1)) + 1000) * i.bytes ≤ 281474976710656 := by
          have := Nat.le_of_ble_eq_true e7
          rw [hb] at this
          have h2 : (2 * (n + 1) + 1000) * i.bytes ≤ 281474976710656 := this
          rw [Nat.zero_add]; exact h2
        have := run_app_new (P := P) (T := T) (U := U) (ty := o.type) (base := none) (os := []) (sLen := 0) (sCap := 0) (und_under hT).1 hU' hi hzv g2 (by rw [← hs]; exact g4 _ rfl) (by simp [Builtin.firstCells]) (by omega) (by omega) hbig
        rw [this]
        simp
  · rw [fN_eq] at e6
    obtain ⟨e7, e8⟩ := ifT_fin e6
    have hbig : (2 * (m + n) + 1000) * i.bytes ≤ 281474976710656 := by
      have := Nat.le_of_ble_eq_true e7
      rw [hb] at this
      exact this
    cases s with
    | false =>
      have e8' : apK d E (siz (types P) E) (byt (types P) E) n l b r0 m ec (m + n) cal t h c df k = .fin v' h' c' := e8
      unfold apK at e8'
      cases hle : Nat.ble (m + n) ec with
      | true =>
        rw [hle, ifT_true rfl] at e8'
        obtain ⟨ty', m', q', z', u, f1, f2⟩ := blk_fin e8'
        rw [fN_eq] at f2
        obtain ⟨f3, f4⟩ := ifT_fin f2
        obtain ⟨u', f5, f6, f7, f8⟩ := stK_fin f4
        rw [hset_eq] at f5
        refine ⟨_, _, _, f5, fun w0 ρ a w hR hTR => ?_⟩
        obtain ⟨vs, N, g1, g2, g3, g4⟩ := e2 hR (opd_den h2 hTR)
        have hN : N = n := g3.symm
        subst hN
        obtain ⟨p, d1, d2⟩ := sl_den e5 (opd_den h1 hTR)
        have hle' : (r0 + m * siz (types P) E) + l.length ≤ m' := by rw [← len_eq]; exact Nat.le_of_ble_eq_true f3
        obtain ⟨w', s1, s2⟩ := hR.store d1 f1 g1 f6 hle'
        have hcap : (r0 + m * siz (types P) E) + l.length ≤ u.cap := by obtain ⟨_, _, k2, _⟩ := hR.row d1 f1; omega
        have f8' : u' = u.sets (r0 + m * siz (types P) E) l := f8 hcap
        rw [← f8'] at s2
        refine ⟨ρ, .slice (some ⟨p.1, r0, none⟩) (m + N) ec, w', Le.refl _, s2, by simp [den, d1], Kp.hs hR.le (by have := (hR.dom _ _ d1).1; have := hR.le; omega) (fun _ hh => by rw [f1] at hh; cases hh), Nat.le_refl _, ?_⟩
        refine exe a w w' _ ?_
        rw [d2]
        refine run_app_in (und_under hT).1 hU' hi g2 (by rw [← hs]; exact g4 w rfl) (by simpa using Nat.le_of_ble_eq_true hle) ?_
        simp only [addr_add, ← hs]
        exact s1
      | false =>
        rw [hle, ifT_false rfl] at e8'
        have hlt : ec < m + n := ble_false.1 hle
        obtain ⟨ty', m', q', z', u0, f1, f2, f3⟩ := ldK_fin e8'
        obtain ⟨u1, f4, f5, f6, f7⟩ := stK_fin (o := 0) f3
        obtain ⟨u2, f8, f9, f10, f11⟩ := stK_fin f4
        rw [fN_eq] at f8
        obtain ⟨j1, j2, j3⟩ := newC_fin f8
        refine ⟨_, _, _, j3, fun w0 ρ a w hR hTR => ?_⟩
        obtain ⟨vs, N, g1, g2, g3, g4⟩ := e2 hR (opd_den h2 hTR)
        have hN : N = n := g3.symm
        subst hN
        obtain ⟨p, d1, d2⟩ := sl_den e5 (opd_den h1 hTR)
        obtain ⟨os, c1, c2, c3, c4⟩ := hR.cells (P := P) d1 f1 f2
        have c1' : os.length = m * i.size := by rw [← hs]; exact c1
        have hvl : vs.length = N * i.size := by rw [denL_length g1, hln, hs]
        have hmn : (m + N) * siz (types P) E = m * siz (types P) E + N * siz (types P) E := Nat.add_mul _ _ _
        have hcapu : (m + N) * siz (types P) E ≤ u2.cap := j1
        have hol : ((List.range (m * siz (types P) E)).map fun j => cell z' u0 (r0 + j)).length = m * siz (types P) E := by simp
        have hu1 := f7 (by rw [← f6, ← f10]; have : ((List.range (Nat.mul m (siz (types P) E))).map fun j => cell z' u0 (r0 + j)).length = m * siz (types P) E := hol; omega)
        have hu2 := f11 (by rw [← f10]; have : Nat.mul m (siz (types P) E) = m * siz (types P) E := rfl; omega)
        have hgl := grown_le w (m + N) ec E
        have hC1 : CR ρ (.c .u) u1 (m * siz (types P) E) os.toArray := by
          rw [hu1]
          refine CR.sets (n := 0) (cs := #[]) (fun i hi => by omega) c2 f5 ?_ ?_ fun j hj => ?_
          · rw [← f6, ← f10]; have : ((List.range (Nat.mul m (siz (types P) E))).map fun j => cell z' u0 (r0 + j)).length = m * siz (types P) E := hol; omega
          · rw [← f6, ← f10]; omega
          · rw [if_pos ⟨by omega, by have : ((List.range (Nat.mul m (siz (types P) E))).map fun j => cell z' u0 (r0 + j)).length = m * siz (types P) E := hol; omega⟩]
            simp
        have hC : CR ρ (.c .u) u2 ((m + N) * siz (types P) E) (os.toArray ++ vs.toArray ++ Builtin.zeroCells zv.cells (grownCap w (m + N) ec E - (m + N))) := by
          rw [hu2]
          refine CR.sets (n := m * siz (types P) E) (cs := os.toArray) hC1 g1 f9 ?_ ?_ fun j hj => ?_
          · rw [← f10]; have : Nat.mul m (siz (types P) E) = m * siz (types P) E := rfl; omega
          · rw [← f10]; exact hcapu
          · have e0 : Nat.mul m (siz (types P) E) = m * siz (types P) E := rfl
            rw [e0]
            have hj2 : j < (os ++ vs).length := by simp only [List.length_append, c1, hvl, ← hs]; omega
            have hfull : (os.toArray ++ vs.toArray ++ Builtin.zeroCells zv.cells (grownCap w (m + N) ec E - (m + N)))[j]? = (os ++ vs)[j]? := by
              rw [Array.getElem?_append_left (by simpa using hj2)]
              simp
            rw [hfull]
            split
            · rename_i hin
              rw [List.getElem?_append_right (by omega), c1]
              rfl
            · rename_i hout
              have hjm : j < m * siz (types P) E := by omega
              exact ⟨hjm, by rw [List.getElem?_append_left (by omega)]; simp⟩
        have hsz : (os.toArray ++ vs.toArray ++ Builtin.zeroCells zv.cells (grownCap w (m + N) ec E - (m + N))).size = grownCap w (m + N) ec E * siz (types P) E := by
          simp only [Array.size_append, List.size_toArray, size_zeroCells, hvl, c1', hzs, hs]
          rw [Nat.sub_mul, ← Nat.add_mul]
          have := Nat.mul_le_mul_right i.size hgl
          omega
        obtain ⟨k1, k2, k3⟩ := (hR.drew).newC (ty := E) (κ := grownCap w (m + N) ec E) (q := siz (types P) E) j2 j1 (by rw [hsz]; exact Nat.mul_le_mul_right _ hgl) (fun hh => by omega) (fun _ => hsz) hC
        refine ⟨_, .slice (some ⟨w.heap.size, 0, none⟩) (m + N) (grownCap w (m + N) ec E), _, k1, k2, ?_, k3, by omega, ?_⟩
        · simp only [den, up_self, Option.map_some, if_true]; rfl
        · refine exe a w _ _ ?_
          rw [d2]
          refine run_app_new (und_under hT).1 hU' hi hzv g2 (by rw [← hs]; exact g4 _ rfl) ?_ hlt (by omega) hbig
          simp only [Builtin.firstCells]
          have := run_loadCells_list (P := P) w.drew ⟨p.1, r0, none⟩ os (fun j v hj => c3 j v hj)
          rw [c1'] at this
          exact this
    | true =>
      have e8' : apU d E (siz (types P) E) l b r0 m ec (m + n) cal t h c df k = .fin v' h' c' := e8
      obtain ⟨ty', m', q', z', u, f1, f2⟩ := blk_fin e8'
      obtain ⟨f3, f4⟩ := ifT_fin f2
      obtain ⟨f5, f6⟩ := ifT_fin f4
      obtain ⟨f7, f8⟩ := ifT_fin f6
      obtain ⟨f9, f10⟩ := ifT_fin f8
      obtain ⟨f11, f12⟩ := ifT_fin f10
      obtain ⟨u', g0, f13, f14, f15⟩ := stK_fin f12
      rw [fN_eq, hset_eq] at g0
      obtain ⟨j1, j2, j3⟩ := newC_fin g0
      have ht : ty' = E := Nat.eq_of_beq_eq_true f3
      have hq : q' = siz (types P) E := Nat.eq_of_beq_eq_true f5
      have hr : r0 = 0 := Nat.eq_of_beq_eq_true f7
      have he : ec = 0 := Nat.eq_of_beq_eq_true f9
      have hmm : m * siz (types P) E ≤ m' := Nat.le_of_ble_eq_true f11
      subst hr; subst he; subst ht
      refine ⟨_, _, _, j3, fun w0 ρ a w hR hTR => ?_⟩
      obtain ⟨vs, N, g1, g2, g3, g4⟩ := e2 hR (opd_den h2 hTR)
      have hN : N = n := g3.symm
      subst hN
      obtain ⟨p, d1, d2⟩ := sl_den e5 (opd_den h1 hTR)
      have d2 : a.eval x = .slice (some ⟨p.1, 0, none⟩) m p.2 := by simpa using d2
      obtain ⟨cs, q1, q2, q3, q4, q5, q6⟩ := hR.row d1 f1
      have hcs : cs.size = p.2 * siz (types P) ty' := by rw [q5 (by omega), hq]
      have hvl : vs.length = N * i.size := by rw [denL_length g1, hln, hs]
      have hmn : (m + N) * siz (types P) ty' = m * siz (types P) ty' + N * siz (types P) ty' := Nat.add_mul _ _ _
      have hns : N * siz (types P) ty' = N * i.size := by rw [hs]
      have hcapu : (m + N) * siz (types P) ty' ≤ u'.cap := j1
      have e0 : Nat.mul m (siz (types P) ty') = m * siz (types P) ty' := rfl
      have hu := f15 (by rw [← f14]; omega)
      have hac := (hR.dom _ _ d1).1
      have hkp : ∀ b', Kp h (Ev.hs (Ev.hs h b .x) c b') c := fun b' k hk e => by
        rw [hget_hs _ _ (by omega) (by omega), if_neg (by omega), hget_hs _ _ (by omega) (by omega)]
        split
        · rename_i hkb; subst hkb; rw [f1] at e; cases e
        · exact e
      by_cases hle : m + N ≤ p.2
      · -- in its place
        have hroom : m * siz (types P) ty' + vs.length ≤ cs.size := by
          rw [hvl, ← hs, ← hmn, hcs]; exact Nat.mul_le_mul_right _ hle
        have h1' : ∀ v ∈ vs, v.oneCell' = true := by
          intro v hv
          obtain ⟨ix, hix⟩ := List.mem_iff_getElem?.1 hv
          have hil : ix < l.length := by rw [← denL_length g1]; exact (List.getElem?_eq_some_iff.1 hix).1
          obtain ⟨y', hy', hd'⟩ := denL_get g1 (List.getElem?_eq_getElem hil)
          rw [hix] at hy'; cases hy'
          exact den_one (f13 _ (List.getElem_mem _)) hd'
        have hst := run_storeCells_at P p.1 (m * siz (types P) ty') ty' vs 0 cs w q1 (by omega) h1'
        have hC : CR (up ρ c p) z' u' ((m + N) * siz (types P) ty') (cs.toList.take (m * siz (types P) ty' + 0) ++ vs ++ cs.toList.drop (m * siz (types P) ty' + 0 + vs.length)).toArray := by
          refine CR.mono ?_ (hR.le_up p)
          rw [hu]
          refine CR.sets (n := m') (cs := cs) q6 g1 f13 (by rw [← f14]; omega) (by rw [← f14]; exact hcapu) fun j hj => ?_
          rw [e0]
          have hjc : j < cs.size := by omega
          split
          · rename_i hin
            simp only [Nat.add_zero, List.getElem?_toArray]
            rw [List.append_assoc, List.getElem?_append_right (by simp; omega)]
            simp only [List.length_take, Array.length_toList]
            rw [Nat.min_eq_left (by omega), List.getElem?_append_left (by rw [hvl, ← hs]; omega)]
          · rename_i hout
            have hjm : j < m * siz (types P) ty' := by omega
            refine ⟨by omega, ?_⟩
            simp only [Nat.add_zero, List.getElem?_toArray]
            rw [List.append_assoc, List.getElem?_append_left (by simp; omega), List.getElem?_take]
            simp [hjm]
        have hT' := hR.take (w' := w.setRow p.1 (cs.toList.take (m * siz (types P) ty' + 0) ++ vs ++ cs.toList.drop (m * siz (types P) ty' + 0 + vs.length)).toArray) (b := .c ty' ((m + N) * siz (types P) ty') (siz (types P) ty') z' u') j2 d1 (by rw [f1]; simp) (fun s hs' => by rw [f1] at hs'; cases hs') (by simp) (by simp)
          (by simp [World.setRow]) rfl rfl rfl (fun k hk => by simp only [World.setRow]; rw [Array.getElem?_modify, if_neg (Ne.symm hk)])
          ⟨p, _, up_self _ _ _, setRow_heap w p.1 cs _ ty' _ q1, j1, by simp; omega, fun hh => by omega, fun _ => by simp; omega, hC⟩
        refine ⟨_, .slice (some ⟨p.1, 0, none⟩) (m + N) p.2, _, hR.le_up p, hT', by simp [den, up_self], hkp _, by omega, ?_⟩
        refine exe a w _ _ ?_
        rw [d2]
        refine run_app_in (und_under hT).1 hU' hi g2 (by rw [← hs]; exact g4 w rfl) hle ?_
        simp only [addr_add, ← hs, Nat.zero_add]
        exact hst
      · -- elsewhere
        have hlt : p.2 < m + N := by omega
        obtain ⟨os, c1, c2, c3, c4⟩ := hR.cells (P := P) (o := 0) (k := m * siz (types P) ty') d1 f1 (by omega)
        have c1' : os.length = m * i.size := by rw [← hs]; exact c1
        have hgl := grown_le w (m + N) p.2 ty'
        have hosc : ∀ j, j < m * siz (types P) ty' → os[j]? = cs[j]? := by
          intro j hj
          have hjl : j < os.length := by omega
          have := c3 j _ (List.getElem?_eq_getElem hjl)
          rw [addr_add] at this
          simp only [World.cell?, q1, Nat.zero_add] at this
          rw [List.getElem?_eq_getElem hjl]
          simpa using this.symm
        have hC : CR ρ z' u' ((m + N) * siz (types P) ty') (os.toArray ++ vs.toArray ++ Builtin.zeroCells zv.cells (grownCap w (m + N) p.2 ty' - (m + N))) := by
          rw [hu]
          refine CR.sets (n := m') (cs := cs) q6 g1 f13 (by rw [← f14]; omega) (by rw [← f14]; exact hcapu) fun j hj => ?_
          rw [e0]
          have hj2 : j < (os ++ vs).length := by simp only [List.length_append, c1, hvl, ← hs]; omega
          have hfull : (os.toArray ++ vs.toArray ++ Builtin.zeroCells zv.cells (grownCap w (m + N) p.2 ty' - (m + N)))[j]? = (os ++ vs)[j]? := by
            rw [Array.getElem?_append_left (by simpa using hj2)]
            simp
          rw [hfull]
          split
          · rename_i hin
            rw [List.getElem?_append_right (by omega), c1]
            try rfl
          · rename_i hout
            have hjm : j < m * siz (types P) ty' := by omega
            exact ⟨by omega, by rw [List.getElem?_append_left (by omega)]; exact hosc j hjm⟩
        have hsz : (os.toArray ++ vs.toArray ++ Builtin.zeroCells zv.cells (grownCap w (m + N) p.2 ty' - (m + N))).size = grownCap w (m + N) p.2 ty' * siz (types P) ty' := by
          simp only [Array.size_append, List.size_toArray, size_zeroCells, hvl, c1', hzs, hs]
          rw [Nat.sub_mul, ← Nat.add_mul]
          have := Nat.mul_le_mul_right i.size hgl
          omega
        obtain ⟨k1, k2, k3⟩ := ((hR.drop hac).drew).newC (ty := ty') (κ := grownCap w (m + N) p.2 ty') (q := siz (types P) ty') j2 j1 (by rw [hsz]; exact Nat.mul_le_mul_right _ hgl) (fun hh => by omega) (fun _ => hsz) hC
        refine ⟨_, .slice (some ⟨w.heap.size, 0, none⟩) (m + N) (grownCap w (m + N) p.2 ty'), _, k1, k2, ?_, hkp _, by omega, ?_⟩
        · simp only [den, up_self, Option.map_some, if_true]; rfl
        · refine exe a w _ _ ?_
          rw [d2]
          refine run_app_new (und_under hT).1 hU' hi hzv g2 (by rw [← hs]; exact g4 _ rfl) ?_ hlt (by omega) hbig
          simp only [Builtin.firstCells]
          have := run_loadCells_list (P := P) w.drew ⟨p.1, 0, none⟩ os (fun j v hj => c3 j v hj)
          rw [c1'] at this
          exact this
end
end Ev
end
