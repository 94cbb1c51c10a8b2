/- Structs and rows built; closures; rows made; texts out of bytes. -/
import Derived.Test.YtelfddkfddnenaaGreatEvM
import Derived.Laws.Tables
namespace Ev
open Go Go.RowKit
set_option linter.unusedVariables false
set_option linter.unusedSimpArgs false
theorem fold_set (off : Nat) : ∀ (xs : List Value) (k : Nat) (cs : Array Value), ((xs.zipIdx k).foldl (fun cs p => cs.setIfInBounds (off + p.2) p.1) cs).size = cs.size ∧
    ∀ i, i < cs.size → ((xs.zipIdx k).foldl (fun cs p => cs.setIfInBounds (off + p.2) p.1) cs)[i]? = if off + k ≤ i ∧ i < off + k + xs.length then xs[i - off - k]? else cs[i]?
  | [], k, cs => ⟨rfl, fun i _ => by rw [if_neg (by simp)]; rfl⟩
  | x :: xs, k, cs => by
    simp only [List.zipIdx_cons, List.foldl_cons]
    obtain ⟨h1, h2⟩ := fold_set off xs (k + 1) (cs.setIfInBounds (off + k) x)
    refine ⟨by rw [h1]; simp, fun i hi => ?_⟩
    rw [h2 i (by simpa using hi)]
    simp only [List.length_cons]
    by_cases e : i = off + k
    · subst e
      rw [if_neg (by omega), if_pos (by omega)]
      have : off + k - off - k = 0 := by omega
      rw [this]
      simp [hi]
    · by_cases hin : off + k ≤ i ∧ i < off + k + (xs.length + 1)
      · rw [if_pos (by omega), if_pos hin]
        have : i - off - k = (i - off - (k + 1)) + 1 := by omega
        rw [this]; simp
      · rw [if_neg (by omega), if_neg hin, Array.getElem?_setIfInBounds_ne (by omega)]
theorem psK_fin {tt : TT} {nt : Nat} {pl : Nat → Option (Nat × Nat)} {m : Nat} {t0 : TM} : ∀ {l : List (Nat × Operand)} {ps : List (Nat × Nat × OP)} {u : Ce} {k : Ce → R} {v : V} {h : HP} {c : Nat}, parts tt nt pl l = .mk ps → psK m t0 ps u k = .fin v h c →
    ∃ u', k u' = .fin v h c ∧ u'.cap = u.cap ∧ ∀ (ρ : Rho) (a : Act) (z : Z) (cs : Array Value), TR ρ nt t0 a.tmps → m ≤ u.cap → cs.size = m → CR ρ z u m cs →
      ∃ cs', Instr.fill pl cs (l.map fun p => (p.1, a.eval p.2)) = some cs' ∧ cs'.size = m ∧ CR ρ z u' m cs'
  | [], ps, u, k, v, h, c, hp, H => by
    cases hp
    exact ⟨u, H, rfl, fun ρ a z cs _ _ hs hC => ⟨cs, rfl, hs, hC⟩⟩
  | (i, x) :: l, ps, u, k, v, h, c, hp, H => by
    unfold parts at hp
    split at hp
    · rename_i o' sz y ys h1 h2 h3
      cases hp
      have H' : ifT (Nat.beq (len (cl (y t0))) sz) (ifT (Nat.ble (Nat.add o' sz) m) (stK (cl (y t0)) u o' fun t => psK m t0 ys t k) (.bad 14)) (.bad 15) = .fin v h c := H
      obtain ⟨e1, e2⟩ := ifT_fin H'
      obtain ⟨e3, e4⟩ := ifT_fin e2
      obtain ⟨u1, e5, e6, e7, e8⟩ := stK_fin e4
      obtain ⟨u', g1, g2, g3⟩ := psK_fin h3 e5
      have hlen : (cl (y t0)).length = sz := by rw [← len_eq]; exact Nat.eq_of_beq_eq_true e1
      have hle : o' + sz ≤ m := Nat.le_of_ble_eq_true e3
      refine ⟨u', g1, g2.trans e7, fun ρ a z cs hT hcap hs hC => ?_⟩
      have hx := cl_den (opd_den h2 hT)
      have hsz : (a.eval x).cells.size = sz := by have := denL_length hx; rw [hlen] at this; simpa using this
      have hf := fold_set o' (a.eval x).cells.toList 0 cs
      have hC1 : CR ρ z u1 m (((a.eval x).cells.toList.zipIdx 0).foldl (fun cs p => cs.setIfInBounds (o' + p.2) p.1) cs) := by
        rw [e8 (by omega)]
        refine CR.sets (cs := cs) hC hx e6 (by omega) hcap fun i hi => ?_
        have := hf.2 i (by omega)
        simp only [Nat.add_zero, Array.length_toList, Nat.sub_zero, hsz] at this
        rw [hlen, this]
        split
        · rfl
        · exact ⟨hi, rfl⟩
      obtain ⟨cs', k1, k2, k3⟩ := g3 ρ a z _ hT (by omega) (by rw [hf.1]; exact hs) hC1
      refine ⟨cs', ?_, k2, k3⟩
      simp only [List.map_cons, Instr.fill, h1]
      rw [if_neg (by rw [hsz]; simp; omega)]
      rw [← k1]
      congr 1
      rw [← Array.foldl_toList]
      simp [Array.toList_zipIdx]
    · cases hp
section
variable {X : Spx} {P : Program} {nt : Nat} {o : Oper} {d : DS}
theorem CR.const {ρ : Rho} {z : List V} {l : List Value} (hz : denL ρ z = some l) (hc : len z ≤ (ce0 (len z)).cap) : CR ρ (.l z (len z)) (ce0 (len z)) (len z) l.toArray := by
  intro i hi
  have hi' := hi
  rw [len_eq] at hi'
  obtain ⟨v, h1, h2⟩ := nth_den hz hi'
  refine ⟨v, by simpa using h1, ?_⟩
  unfold cell
  rw [orD_u (cget_ce0 _ _ (by omega))]
  show den ρ (nth z (i % len z)) = _
  rw [Nat.mod_eq_of_lt hi]; exact h2
theorem places_ok {fs : Array Field} (h : (fs.all fun f => okI (types P) f.type) = true) : fs.toList.mapM (fun f => (P.info? f.type).map fun i => (f.offset, i.size)) = some (fs.toList.map fun f => (f.offset, siz (types P) f.type)) := by
  have h' : ∀ f ∈ fs.toList, okI (types P) f.type = true := by
    intro f hf
    rw [Array.all_eq_true] at h
    obtain ⟨i, hi, rfl⟩ := Array.mem_iff_getElem.1 (Array.mem_toList_iff.1 hf)
    exact h i hi
  generalize fs.toList = l at h' ⊢
  clear h
  induction l with
  | nil => rfl
  | cons f l ih =>
    obtain ⟨D, hD⟩ := okI_some (h' f (by simp))
    obtain ⟨i, hi, hs, _⟩ := (und_under hD).2
    rw [List.mapM_cons, ih fun g hg => h' g (by simp [hg])]
    simp [hi, hs]
theorem snd_build {T : TypeId} {ps : Array (Nat × Operand)} {z : List V} {l : List Value} {pl : Nat → Option (Nat × Nat)} {os : List (Nat × Nat × OP)} (hop : o.op = .build T ps) (hd : cDst nt o.dst = .mk d) (hz : zOf (types P) T = some l) (hzz : cVs l = some z) (hc : ceB (len z) (ce0 (len z)) = true) (hp : parts (types P) nt pl ps.toList = .mk os)
    (hpl : (∃ fs, und (types P) T = some (.struct fs) ∧ (fs.all fun f => okI (types P) f.type) = true ∧ pl = fun i => (fs[i]?).map fun f => (f.offset, siz (types P) f.type)) ∨ ∃ n E, und (types P) T = some (.array n E) ∧ okI (types P) E = true ∧ pl = fun i => some (i * siz (types P) E, siz (types P) E)) : VSnd X P nt d (fBuild d z os) o := by
  refine VSnd.of (by rw [hop]; simp) hd fun cal t h c df k v' h' c' e => ?_
  obtain ⟨u, e1, e2, e3⟩ := psK_fin hp e
  rw [cellsK_eq] at e1
  refine ⟨_, e1, fun w0 ρ a w hR hT => ?_⟩
  obtain ⟨i, zv, hi, hzv, hcl⟩ := zOf_zero hz
  have hzd := cVs_den (ρ := ρ) hzz
  have hlen : l.length = len z := by rw [len_eq]; exact denL_length hzd
  have hcap := (ceB_iff _ _).1 hc
  have hcl' : zv.cells = l.toArray := by rw [← hcl]
  obtain ⟨cs', g1, g2, g3⟩ := e3 ρ a (.l z (len z)) l.toArray hT hcap (by simpa using hlen) (CR.const hzd hcap)
  refine ⟨.agg cs', ?_, ?_⟩
  · have := CR.load (ρ := ρ) g3 (len z) 0 (by omega)
    simp only [Nat.zero_add] at this
    have e0 : (List.range (len z)).map (fun j => cell (.l z (len z)) u (0 + j)) = (List.range (len z)).map fun j => cell (.l z (len z)) u j := by simp
    simp only [den]
    have e1' : denL ρ ((List.range (len z)).map fun j => cell (.l z (len z)) u (0 + j)) = some cs'.toList := by
      rw [e0, this]
      simp only [List.drop_zero, Option.some.injEq]
      exact List.take_of_length_le (by simp; omega)
    have e2' : denL ρ ((List.range (len z)).map fun j => cell (.l z (len z)) u ((nat_lit 0) + j)) = some cs'.toList := e1'
    rw [e2']; simp
  · have hb : P.built T (ps.map fun (i, x) => (i, a.eval x)).toList = some cs' := by
      unfold Program.built
      rw [hi]
      rcases hpl with ⟨fs, hfs, hall, rfl⟩ | ⟨n, E, hE, hok, rfl⟩
      · rw [(und_under hfs).1]
        simp only [hzv, places_ok hall, hcl']
        rw [← g1]
        congr 1
        · funext i; simp
        · simp
      · rw [(und_under hE).1]
        obtain ⟨D, hD⟩ := okI_some hok
        obtain ⟨ie, hie, hs, _⟩ := (und_under hD).2
        simp only [hzv, hie, hcl']
        rw [← g1, hs]
        congr 1
        simp
    simp only [execOp, hop]
    rw [Sem.run_bind, run_build w T _ cs' hb]; rfl
theorem CR.pat {ρ : Rho} {z : List V} {l : List Value} {m : Nat} (hz : denL ρ z = some l) (hl : 0 < l.length) (hc : m ≤ (ce0 m).cap) : CR ρ (.l z l.length) (ce0 m) m ((Array.range m).map fun j => l.toArray[j % l.toArray.size]!) := by
  intro i hi
  have hlt : i % l.length < z.length := by rw [← denL_length hz]; exact Nat.mod_lt _ hl
  obtain ⟨v, h1, h2⟩ := nth_den hz hlt
  refine ⟨v, ?_, ?_⟩
  · simp [hi]
    have : i % l.length < l.length := Nat.mod_lt _ hl
    rw [List.getElem?_eq_getElem this] at h1
    simpa [getElem!_pos, this] using h1
  · unfold cell
    rw [orD_u (cget_ce0 _ _ (by omega))]
    exact h2
theorem snd_bsl {T E n : Nat} {ps : Array (Nat × Operand)} {z : List V} {l : List Value} {os : List (Nat × Nat × OP)} (hop : o.op = .buildSlice T n ps) (hd : cDst nt o.dst = .mk d) (hT : und (types P) T = some (.slice E)) (hz : zOf (types P) E = some l) (hzz : cVs l = some z) (hl : z.length = siz (types P) E) (hpos : 0 < siz (types P) E) (hle : n * siz (types P) E ≤ 1000000)
    (hp : parts (types P) nt (fun i => some (i * siz (types P) E, siz (types P) E)) ps.toList = .mk os) : OSnd X P nt (fBsl d E (siz (types P) E) n z os) o := by
  refine OSnd.mem (by rw [hop]; simp) hd fun cal _ t h c df k v' h' c' e => ?_
  have e0 : psK (n * siz (types P) E) t os (ce0 (n * siz (types P) E)) (fun u => newC E (n * siz (types P) E) (nat_lit 0) (.l z (siz (types P) E)) u h c fun h c' => d (.sl c (nat_lit 0) n n false) t fun t => k t h c' df) = .fin v' h' c' := by
    have := e; unfold fBsl at this; rw [fN_eq] at this; exact this
  obtain ⟨u, e1, e2, e3⟩ := psK_fin hp e0
  obtain ⟨e4, e5, e6⟩ := newC_fin e1
  refine ⟨_, _, _, e6, fun w0 ρ a w hR hT' => ?_⟩
  obtain ⟨i, zv, hi, hzv, hcl⟩ := zOf_zero hz
  obtain ⟨ie, hie, hs, _⟩ := siz_pos hpos
  rw [hi] at hie; cases hie
  have hzd := cVs_den (ρ := ρ) hzz
  have hlen : l.length = siz (types P) E := by rw [← hl]; exact denL_length hzd
  have hcl' : zv.cells = l.toArray := by rw [← hcl]
  have hcap : n * siz (types P) E ≤ (ce0 (n * siz (types P) E)).cap := e2 ▸ e4
  have hpat := CR.pat (m := n * siz (types P) E) hzd (by omega) hcap
  rw [hlen] at hpat
  obtain ⟨cs', g1, g2, g3⟩ := e3 ρ a (.l z (siz (types P) E)) _ hT' hcap (by simp) hpat
  obtain ⟨k1, k2, k3⟩ := hR.newC (ty := E) (κ := 0) (q := 0) e5 e4 (by omega) (fun _ => g2) (fun hh => absurd rfl hh) g3
  refine ⟨_, .slice (some ⟨w.heap.size, 0, none⟩) n n, _, k1, k2, by simp [den, up_self], k3, by omega, ?_⟩
  have hps : (ps.map fun (i, x) => (i, a.eval x)).toList = ps.toList.map fun p => (p.1, a.eval p.2) := by simp
  have hzc : (if n * i.size = 0 then (#[] : Array Value) else zv.cells) = if n * i.size = 0 then #[] else l.toArray := by rw [hcl']
  simp only [execOp, hop, Instr.buildSlice]
  have hle' : ¬ n * i.size > 2 ^ 24 := by rw [← hs]; omega
  simp only [Sem.run_bind, run_underlying (und_under hT).1, Result.andThen_ok, run_sizeOf P hi]
  rw [if_neg hle']
  by_cases h0 : n * i.size = 0
  · have hn : n = 0 := by
      rcases Nat.mul_eq_zero.1 h0 with h1 | h1
      · exact h1
      · rw [← hs] at h1; omega
    subst hn
    simp only [h0, if_true, Sem.run_bind, Sem.run_pure, Result.andThen_ok]
    have g1' : Instr.fill (fun j => some (j * i.size, i.size)) ((Array.range 0).map fun j => (#[] : Array Value)[j % (#[] : Array Value).size]!) (ps.map fun (i, x) => (i, a.eval x)).toList = some cs' := by
      rw [hps, ← g1, hs]
      congr 1
      simp
    rw [g1']
    simp [newRow]
  · rw [if_neg h0]
    have hzr : (zeroValue E).run P w = .ok zv w := by simp [zeroValue, typeInfo, hi, hzv]
    have g1' : Instr.fill (fun j => some (j * i.size, i.size)) ((Array.range (n * i.size)).map fun j => l.toArray[j % l.toArray.size]!) (ps.map fun (i, x) => (i, a.eval x)).toList = some cs' := by
      rw [hps, ← g1, hs]
    simp only [Sem.run_bind, hzr, Result.andThen_ok, Sem.run_pure, hcl']
    rw [g1']
    simp [newRow]
end
end Ev
