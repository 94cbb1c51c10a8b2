/- Addresses, parts, integers out of tuples. -/
import Derived.Test.YtelfddkfddnenaaGreatEvI
namespace Ev
open Go Go.RowKit
set_option linter.unusedVariables false
set_option linter.unusedSimpArgs false
section
variable {X : Spx} {P : Program} {nt : Nat} {o : Oper} {d : DS}
theorem okI_some {t : Nat} (h : okI (types P) t = true) : ∃ D, und (types P) t = some D := Option.isSome_iff_exists.1 h
theorem snd_fa {x : Operand} {y : OP} {T f : Nat} {fs : Array Field} {g : Field} (hop : o.op = .fieldAddr T x f) (hd : cDst nt o.dst = .mk d) (h1 : cOpd nt x = .mk y) (hT : und (types P) T = some (.struct fs)) (hf : fs[f]? = some g) (hz : Nat.beq (siz (types P) g.type) 0 = false) : VSnd X P nt d (fFa d g.offset y) o := by
  refine VSnd.of (by rw [hop]; simp) hd fun cal t h c df k v' h' c' e => ?_
  obtain ⟨b, r, e1, e2⟩ := asP_fin e
  rw [fN_eq] at e2
  refine ⟨_, e2, fun w0 ρ a w hR hTR => ?_⟩
  obtain ⟨p, d1, d2⟩ := ptr_den e1 (opd_den h1 hTR)
  obtain ⟨i, hi, hs, _⟩ := siz_pos (P := P) (t := g.type) (by have := Nat.ne_of_beq_eq_false hz; omega)
  have hne : ¬ i.size = 0 := by rw [← hs]; exact Nat.ne_of_beq_eq_false hz
  refine ⟨.pointer (some ⟨p.1, r + g.offset, none⟩), by simp [den, d1], ?_⟩
  simp [execOp, hop, d2, Instr.fieldAt, Instr.sureAddr, run_underlying (und_under hT).1, hf, fieldPlace, run_sizeOf P hi, hne, addr_add]
theorem agg_den {ρ : Rho} {v : V} {l : List V} {x : Value} (e : v = .ag l) (h : den ρ v = some x) : ∃ r, denL ρ l = some r ∧ x = .agg r.toArray := by
  subst e; simp only [den, Option.map_eq_some_iff] at h; obtain ⟨p, h1, h2⟩ := h; exact ⟨p, h1, h2.symm⟩
theorem tup_den {ρ : Rho} {v : V} {l : List V} {x : Value} (e : v = .tu l) (h : den ρ v = some x) : ∃ r, denL ρ l = some r ∧ x = .tuple r.toArray := by
  subst e; simp only [den, Option.map_eq_some_iff] at h; obtain ⟨p, h1, h2⟩ := h; exact ⟨p, h1, h2.symm⟩
theorem nth_den {ρ : Rho} {l : List V} {r : List Value} {i : Nat} (h : denL ρ l = some r) (hi : i < l.length) : ∃ x, r[i]? = some x ∧ den ρ (nth l i) = some x := by
  have hg : l[i]? = some l[i] := List.getElem?_eq_getElem hi
  obtain ⟨x, h1, h2⟩ := denL_get h hg
  refine ⟨x, h1, ?_⟩
  rw [nth_eq]; simp [List.getD, hg, h2]
theorem lt_len {α : Type} {l : List α} {i : Nat} (h : Nat.ble (Nat.succ i) (len l) = true) : i < l.length := by
  have := Nat.le_of_ble_eq_true h; rw [len_eq] at this; omega
theorem extract_list (r : List Value) (o n : Nat) : r.toArray.extract o (o + n) = ((r.drop o).take n).toArray := by
  apply Array.ext'
  simp [Array.toList_extract, List.extract_eq_take_drop]
theorem snd_fl {x : Operand} {y : OP} {T f : Nat} {fs : Array Field} {g : Field} (hop : o.op = .field T x f) (hd : cDst nt o.dst = .mk d) (h1 : cOpd nt x = .mk y) (hT : und (types P) T = some (.struct fs)) (hf : fs[f]? = some g) (hok : okI (types P) g.type = true) (hg : agg (types P) g.type = false) : VSnd X P nt d (fFl d g.offset y) o := by
  refine VSnd.of (by rw [hop]; simp) hd fun cal t h c df k v' h' c' e => ?_
  obtain ⟨l, e1, e2⟩ := asA_fin e
  obtain ⟨e3, e4⟩ := ifT_fin e2
  rw [fV_eq] at e4
  refine ⟨_, e4, fun w0 ρ a w hR hTR => ?_⟩
  obtain ⟨r, d1, d2⟩ := agg_den e1 (opd_den h1 hTR)
  obtain ⟨x', g1, g2⟩ := nth_den d1 (lt_len e3)
  obtain ⟨D, hD⟩ := okI_some hok
  refine ⟨x', g2, ?_⟩
  simp [execOp, hop, d2, Instr.field, run_underlying (und_under hT).1, hf, asAgg, part, run_isAgg P hD, hg, g1]
theorem snd_fla {x : Operand} {y : OP} {T f : Nat} {fs : Array Field} {g : Field} (hop : o.op = .field T x f) (hd : cDst nt o.dst = .mk d) (h1 : cOpd nt x = .mk y) (hT : und (types P) T = some (.struct fs)) (hf : fs[f]? = some g) (hok : okI (types P) g.type = true) (hg : agg (types P) g.type = true) : VSnd X P nt d (fFla d g.offset (siz (types P) g.type) y) o := by
  refine VSnd.of (by rw [hop]; simp) hd fun cal t h c df k v' h' c' e => ?_
  obtain ⟨l, e1, e2⟩ := asA_fin e
  refine ⟨_, e2, fun w0 ρ a w hR hTR => ?_⟩
  obtain ⟨r, d1, d2⟩ := agg_den e1 (opd_den h1 hTR)
  obtain ⟨D, hD⟩ := okI_some hok
  obtain ⟨i, hi, hs, _⟩ := (und_under hD).2
  refine ⟨.agg ((r.drop g.offset).take i.size).toArray, by rw [take_eq, drop_eq, hs]; simp [den, denL_take _ (denL_drop _ d1)], ?_⟩
  simp [execOp, hop, d2, Instr.field, run_underlying (und_under hT).1, hf, asAgg, part, run_isAgg P hD, hg, run_sizeOf P hi, extract_list]
theorem nat_den {ρ : Rho} {v : V} {k m : Nat} {x : Value} (e : v = .i k m) (h : den ρ v = some x) : x = .int (kd k) (m : Int) := by
  subst e; simpa [den] using h.symm
theorem sl_den {ρ : Rho} {v : V} {a r n e : Nat} {s : Bool} {x : Value} (e1 : v = .sl a r n e s) (h : den ρ v = some x) : ∃ p, ρ a = some p ∧ x = .slice (some ⟨p.1, r, none⟩) n (if s then p.2 - e else e) := by
  subst e1; simp only [den, Option.map_eq_some_iff] at h; obtain ⟨p, h1, h2⟩ := h; exact ⟨p, h1, h2.symm⟩
theorem snd_ia {x i : Operand} {y1 y2 : OP} {T E : Nat} (hop : o.op = .indexAddr T x i) (hd : cDst nt o.dst = .mk d) (h1 : cOpd nt x = .mk y1) (h2 : cOpd nt i = .mk y2) (hT : und (types P) T = some (.slice E)) (hok : okI (types P) E = true) : VSnd X P nt d (fIa d (siz (types P) E) y1 y2) o := by
  refine VSnd.of (by rw [hop]; simp) hd fun cal t h c df k v' h' c' e => ?_
  rcases asL_fin e with ⟨_, e1⟩ | ⟨b, r, n, q, s, e1, e2⟩
  · cases e1
  obtain ⟨kk, j, e3, e4⟩ := asN_fin e2
  obtain ⟨e5, e6⟩ := ifT_fin e4
  rw [fN_eq] at e6
  refine ⟨_, e6, fun w0 ρ a w hR hTR => ?_⟩
  obtain ⟨p, d1, d2⟩ := sl_den e1 (opd_den h1 hTR)
  have d3 := nat_den e3 (opd_den h2 hTR)
  obtain ⟨D, hD⟩ := okI_some hok
  obtain ⟨ii, hi, hs, _⟩ := (und_under hD).2
  have hlt : j < n := Nat.le_of_ble_eq_true e5
  refine ⟨.pointer (some ⟨p.1, r + j * ii.size, none⟩), by simp [den, d1, hs], ?_⟩
  simp [execOp, hop, d2, d3, Instr.indexAt, asIntOf, run_underlying (und_under hT).1, run_sizeOf P hi, hlt, addr_add]
theorem snd_iaa {x i : Operand} {y1 y2 : OP} {T E n : Nat} (hop : o.op = .indexAddr T x i) (hd : cDst nt o.dst = .mk d) (h1 : cOpd nt x = .mk y1) (h2 : cOpd nt i = .mk y2) (hT : und (types P) T = some (.array n E)) (hok : okI (types P) E = true) : VSnd X P nt d (fIaa d (siz (types P) E) n y1 y2) o := by
  refine VSnd.of (by rw [hop]; simp) hd fun cal t h c df k v' h' c' e => ?_
  obtain ⟨b, r, e1, e2⟩ := asP_fin e
  obtain ⟨kk, j, e3, e4⟩ := asN_fin e2
  obtain ⟨e5, e6⟩ := ifT_fin e4
  rw [fN_eq] at e6
  refine ⟨_, e6, fun w0 ρ a w hR hTR => ?_⟩
  obtain ⟨p, d1, d2⟩ := ptr_den e1 (opd_den h1 hTR)
  have d3 := nat_den e3 (opd_den h2 hTR)
  obtain ⟨D, hD⟩ := okI_some hok
  obtain ⟨ii, hi, hs, _⟩ := (und_under hD).2
  have hlt : j < n := Nat.le_of_ble_eq_true e5
  refine ⟨.pointer (some ⟨p.1, r + j * ii.size, none⟩), by simp [den, d1, hs], ?_⟩
  simp [execOp, hop, d2, d3, Instr.indexAt, asIntOf, Instr.sureAddr, run_underlying (und_under hT).1, run_sizeOf P hi, hlt, addr_add]
theorem snd_ex {x : Operand} {y : OP} {i : Nat} (hop : o.op = .extract x i) (hd : cDst nt o.dst = .mk d) (h1 : cOpd nt x = .mk y) : VSnd X P nt d (fEx d y i) o := by
  refine VSnd.of (by rw [hop]; simp) hd fun cal t h c df k v' h' c' e => ?_
  obtain ⟨l, e1, e2⟩ := asT_fin e
  obtain ⟨e3, e4⟩ := ifT_fin e2
  rw [fV_eq] at e4
  refine ⟨_, e4, fun w0 ρ a w hR hTR => ?_⟩
  obtain ⟨r, d1, d2⟩ := tup_den e1 (opd_den h1 hTR)
  obtain ⟨x', g1, g2⟩ := nth_den d1 (lt_len e3)
  exact ⟨x', g2, by simp [execOp, hop, d2, Instr.extract, g1]⟩
theorem snd_ix {x i : Operand} {y1 y2 : OP} {T E n : Nat} (hop : o.op = .index T x i) (hd : cDst nt o.dst = .mk d) (h1 : cOpd nt x = .mk y1) (h2 : cOpd nt i = .mk y2) (hT : und (types P) T = some (.array n E)) (hok : okI (types P) E = true) (hg : agg (types P) E = false) : VSnd X P nt d (fIx d (siz (types P) E) n y1 y2) o := by
  refine VSnd.of (by rw [hop]; simp) hd fun cal t h c df k v' h' c' e => ?_
  obtain ⟨l, e1, e2⟩ := asA_fin e
  obtain ⟨kk, j, e3, e4⟩ := asN_fin e2
  obtain ⟨e5, e6⟩ := ifT_fin e4
  obtain ⟨e7, e8⟩ := ifT_fin e6
  rw [fV_eq] at e8
  refine ⟨_, e8, fun w0 ρ a w hR hTR => ?_⟩
  obtain ⟨r, d1, d2⟩ := agg_den e1 (opd_den h1 hTR)
  have d3 := nat_den e3 (opd_den h2 hTR)
  obtain ⟨D, hD⟩ := okI_some hok
  obtain ⟨ii, hi, hs, _⟩ := (und_under hD).2
  have hlt : j < n := Nat.le_of_ble_eq_true e5
  obtain ⟨x', g1, g2⟩ := nth_den (i := j * siz (types P) E) d1 (lt_len e7)
  rw [hs] at g1
  refine ⟨x', g2, ?_⟩
  simp [execOp, hop, d2, d3, Instr.index, asIntOf, run_underlying (und_under hT).1, run_sizeOf P hi, hlt, part, run_isAgg P hD, hg, g1]
theorem snd_ixa {x i : Operand} {y1 y2 : OP} {T E n : Nat} (hop : o.op = .index T x i) (hd : cDst nt o.dst = .mk d) (h1 : cOpd nt x = .mk y1) (h2 : cOpd nt i = .mk y2) (hT : und (types P) T = some (.array n E)) (hok : okI (types P) E = true) (hg : agg (types P) E = true) : VSnd X P nt d (fIxa d (siz (types P) E) n y1 y2) o := by
  refine VSnd.of (by rw [hop]; simp) hd fun cal t h c df k v' h' c' e => ?_
  obtain ⟨l, e1, e2⟩ := asA_fin e
  obtain ⟨kk, j, e3, e4⟩ := asN_fin e2
  obtain ⟨e5, e6⟩ := ifT_fin e4
  refine ⟨_, e6, fun w0 ρ a w hR hTR => ?_⟩
  obtain ⟨r, d1, d2⟩ := agg_den e1 (opd_den h1 hTR)
  have d3 := nat_den e3 (opd_den h2 hTR)
  obtain ⟨D, hD⟩ := okI_some hok
  obtain ⟨ii, hi, hs, _⟩ := (und_under hD).2
  have hlt : j < n := Nat.le_of_ble_eq_true e5
  refine ⟨.agg ((r.drop (j * ii.size)).take ii.size).toArray, by rw [take_eq, drop_eq, hs]; simp [den, denL_take _ (denL_drop _ d1)], ?_⟩
  simp [execOp, hop, d2, d3, Instr.index, asIntOf, run_underlying (und_under hT).1, run_sizeOf P hi, hlt, part, run_isAgg P hD, hg, extract_list]
theorem str_den {ρ : Rho} {v : V} {l : List Nat} {x : Value} (e : v = .s l) (h : den ρ v = some x) : x = .string (str l) := by
  subst e; simpa [den] using h.symm
theorem str_size (l : List Nat) : (str l).size = l.length := by simp [str, ByteArray.size]
theorem snd_ixs {x i : Operand} {y1 y2 : OP} {T : Nat} (hop : o.op = .index T x i) (hd : cDst nt o.dst = .mk d) (h1 : cOpd nt x = .mk y1) (h2 : cOpd nt i = .mk y2) (hT : und (types P) T = some .string) : VSnd X P nt d (fIxs d y1 y2) o := by
  refine VSnd.of (by rw [hop]; simp) hd fun cal t h c df k v' h' c' e => ?_
  obtain ⟨l, e1, e2⟩ := asS_fin e
  obtain ⟨kk, j, e3, e4⟩ := asN_fin e2
  obtain ⟨e5, e6⟩ := ifT_fin e4
  rw [fN_eq] at e6
  refine ⟨_, e6, fun w0 ρ a w hR hTR => ?_⟩
  have d2 := str_den e1 (opd_den h1 hTR)
  have d3 := nat_den e3 (opd_den h2 hTR)
  have hlt : j < l.length := by have := Nat.le_of_ble_eq_true e5; rw [len_eq] at this; omega
  have hn : ∀ (l : List Nat) (j : Nat), j < l.length → nthN l j = l.getD j 0 := by
    intro l
    induction l with
    | nil => intro j h; simp at h
    | cons a l ih =>
      intro j h
      cases j with
      | zero => rfl
      | succ j => show nthN l j = _; rw [ih j (by simpa using h)]; simp
  have hg : l[j]? = some l[j] := List.getElem?_eq_getElem hlt
  have hb : (str l)[j]? = some (UInt8.ofNat l[j]) := by
    have hs : j < (str l).size := by rw [str_size]; exact hlt
    rw [getElem?_pos (str l) j hs]
    have : (str l)[j] = (l.map UInt8.ofNat).toArray[j]'(by simpa using hlt) := rfl
    rw [this]; simp
  refine ⟨.int .u8 ((l[j] % 256 : Nat) : Int), ?_, ?_⟩
  · rw [hn l j hlt]; simp [den, List.getD, hg, kd]; rfl
  · simp [execOp, hop, d2, d3, Instr.index, asIntOf, run_underlying (und_under hT).1, hb]
end
end Ev
