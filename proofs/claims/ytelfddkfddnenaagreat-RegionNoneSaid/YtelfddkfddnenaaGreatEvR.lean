/- append. -/
import Derived.Test.YtelfddkfddnenaaGreatEvQ
namespace Ev
open Go Go.RowKit
set_option linter.unusedVariables false
set_option linter.unusedSimpArgs false
theorem growBy_le (L B : Nat) (hB : L + (L + 768) / 4 ≤ B) : ∀ (r c : Nat), c ≤ B → Builtin.growBy L r c ≤ B
  | 0, c, h => h
  | r + 1, c, h => by
    unfold Builtin.growBy
    split
    · exact h
    · rename_i hlt
      exact growBy_le L B hB r _ (by omega)
theorem nsc_le {need cap : Nat} (h : cap < need) : Builtin.nextslicecap need cap ≤ 2 * need + 1000 := by
  unfold Builtin.nextslicecap
  split
  · omega
  · split
    · omega
    · exact growBy_le need _ (by omega) 4 cap (by omega)
section
variable {P : Program} {T U E ty : TypeId} {i : TypeInfo} {z X Y : Value} {n sLen sCap : Nat} {w : World} {vs : List Value}
theorem run_app_in {base : Option Addr} {w' : World} (hT : P.underlying T = some (.slice E)) (hU : (∃ e, P.underlying U = some (.slice e)) ∨ P.underlying U = some .string) (hi : P.info? E = some i) (hn : (Builtin.lenOf Y).run P w = .ok n w) (hv : (Builtin.firstCells i.size n Y).run P w = .ok vs.toArray w)
    (hle : sLen + n ≤ sCap) (hst : match base with | some p => (storeCells (p.add (sLen * i.size)) vs).run P w = .ok () w' | none => w' = w) :
    (Builtin.append_ #[T, U] ty #[.slice base sLen sCap, Y]).run P w = .ok (.slice base (sLen + n) sCap) w' := by
  have hz : ∀ D, P.underlying U = some D → (match D with | .int _ => true | _ => false) = false → True := fun _ _ _ => trivial
  rcases hU with ⟨e, hU⟩ | hU <;> cases base with
  | none => simp only at hst; subst hst; simp [Builtin.append_, run_underlying hT, run_underlying hU, Ev.run_sizeOf P hi, hn, hv, hle]
  | some p => simp only at hst; simp [Builtin.append_, run_underlying hT, run_underlying hU, Ev.run_sizeOf P hi, hn, hv, hle, hst]
theorem run_app_new {base : Option Addr} {os : List Value} (hT : P.underlying T = some (.slice E)) (hU : (∃ e, P.underlying U = some (.slice e)) ∨ P.underlying U = some .string) (hi : P.info? E = some i) (hz : i.zero = some z) (hn : (Builtin.lenOf Y).run P w = .ok n w)
    (hv : (Builtin.firstCells i.size n Y).run P w.drew = .ok vs.toArray w.drew) (ho : (Builtin.firstCells i.size sLen (.slice base sLen sCap)).run P w.drew = .ok os.toArray w.drew) (hlt : sCap < sLen + n) (hb : 0 < i.bytes) (hbig : (2 * (sLen + n) + 1000) * i.bytes ≤ 281474976710656) :
    (Builtin.append_ #[T, U] ty #[.slice base sLen sCap, Y]).run P w =
      .ok (.slice (some ⟨w.heap.size, 0, none⟩) (sLen + n) (grownCap w (sLen + n) sCap E)) (w.drew.alloc (.cells (os.toArray ++ vs.toArray ++ Builtin.zeroCells z.cells (grownCap w (sLen + n) sCap E - (sLen + n))) E)) := by
  have h1 : ¬ (sLen + n ≤ sCap) := by omega
  have h2 : ¬ i.bytes = 0 := by omega
  have h3 : ¬ (281474976710656 < Builtin.nextslicecap (sLen + n) sCap * i.bytes) := by
    have := Nat.mul_le_mul_right i.bytes (nsc_le hlt)
    omega
  rcases hU with ⟨e, hU⟩ | hU <;> simp [Builtin.append_, run_underlying hT, run_underlying hU, Ev.run_sizeOf P hi, typeInfo, zeroValue, hi, hz, hn, h1, h2, h3, Question.forced, hv, ho, newRow, grownCap] <;> (congr 2; apply Array.ext'; simp [List.append_assoc])
end
theorem grown_le (w : World) (need old : Nat) (e : TypeId) : need ≤ grownCap w need old e := by unfold grownCap Question.cut; simp
theorem size_zeroCells (z : Array Value) (n : Nat) : (Builtin.zeroCells z n).size = n * z.size := by simp [Builtin.zeroCells]
section
variable {X : Spx} {P : Program} {nt : Nat} {o : Oper} {d : DS}
theorem HR.drew {w0 : Base} {w : World} {ρ : Rho} {h : HP} {c : Nat} (H : HR X P w0 ρ h c w) : HR X P w0 ρ h c w.drew := H.same rfl rfl rfl rfl
theorem snd_app {T U E : Nat} {x y : Operand} {y1 y2 : OP} {cc : Call} {zl : List Value} (hop : o.op = .call cc) (hcc : cc.callee = .builtin .append) (ha : cc.args.toList = [x, y]) (hat : cc.argTypes.toList = [T, U]) (hd : cDst nt o.dst = .mk d) (h1 : cOpd nt x = .mk y1) (h2 : cOpd nt y = .mk y2) (hT : und (types P) T = some (.slice E))
    (hU : (∃ e, und (types P) U = some (.slice e)) ∨ und (types P) U = some .string) (hz : zOf (types P) E = some zl) (hpos : 0 < siz (types P) E) (hbp : 0 < byt (types P) E) (hzl : zl.length = siz (types P) E) : OSnd X P nt (fApp d E (siz (types P) E) (byt (types P) E) y1 y2) o := by
  have ha' : cc.args = #[x, y] := Array.toList_inj.1 (by simpa using ha)
  have hat' : cc.argTypes = #[T, U] := Array.toList_inj.1 (by simpa using hat)
  obtain ⟨i, zv, hi, hzv, hcl⟩ := zOf_zero hz
  obtain ⟨ie, hie, hs, hb⟩ := siz_pos hpos
  rw [hi] at hie; cases hie
  have hU' : (∃ e, P.underlying U = some (.slice e)) ∨ P.underlying U = some .string := hU.imp (fun ⟨e, h⟩ => ⟨e, (und_under h).1⟩) fun h => (und_under h).1
  have hzs : zv.cells.size = i.size := by rw [← hs, ← hzl, ← hcl]; simp
  have exe : ∀ (a : Act) (w w' : World) (r : Value), (Builtin.append_ #[T, U] o.type #[a.eval x, a.eval y]).run P w = .ok r w' → (execOp a.eval o).run P w = .ok (.value r) w' := by
    intro a w w' r hr
    simp only [execOp, hop, resolve, hcc, ha', hat', invoke, builtin]
    simp [hr]
  refine OSnd.mem (by rw [hop]; simp) hd fun cal _ t h c df k v' h' c' e => ?_
  obtain ⟨n, l, e1, e2⟩ := srcK_fin e
  obtain ⟨e3, e4⟩ := ifT_fin e1
  have hln : l.length = n * siz (types P) E := by rw [← len_eq]; exact Nat.eq_of_beq_eq_true e3
  rcases asL_fin e4 with ⟨e5, e6⟩ | ⟨b, r0, m, ec, s, e5, e6⟩
  · -- none yet
    have nilv : ∀ {ρ : Rho} {a : Act}, TR ρ nt t a.tmps → a.eval x = .slice none 0 0 := by
      intro ρ a hTR
      have hv := opd_den h1 hTR
      rw [e5] at hv
      simp only [den, Option.some.injEq] at hv
      exact hv.symm
    cases n with
    | zero =>
      refine ⟨.ns, h, c, e6, fun w0 ρ a w hR hTR => ⟨ρ, .slice none 0 0, w, Le.refl _, hR, by simp [den], Kp.refl _ _, Nat.le_refl _, ?_⟩⟩
      obtain ⟨vs, N, g1, g2, g3, g4⟩ := e2 hR (opd_den h2 hTR)
      have hN : N = 0 := g3.symm
      subst hN
      refine exe a w w _ ?_
      rw [nilv hTR]
      exact run_app_in (base := none) (und_under hT).1 hU' hi g2 (by rw [← hs]; exact g4 w rfl) (Nat.le_refl _) rfl
    | succ n =>
      obtain ⟨e7, e8⟩ := ifT_fin (show ifT _ _ _ = _ from e6)
      obtain ⟨u, e9, e10, e11, e12⟩ := stK_fin (o := 0) e8
      rw [fN_eq] at e9
      obtain ⟨f1, f2, f3⟩ := newC_fin e9
      refine ⟨_, _, _, f3, fun w0 ρ a w hR hTR => ?_⟩
      obtain ⟨vs, N, g1, g2, g3, g4⟩ := e2 hR (opd_den h2 hTR)
      have hN : N = n + 1 := g3.symm
      subst hN
      have hvl : vs.length = (n + 1) * i.size := by rw [denL_length g1, hln, hs]
      have hmul : Nat.mul (n + 1) (siz (types P) E) = (n + 1) * siz (types P) E := rfl
      have hcapu : (n + 1) * siz (types P) E ≤ u.cap := f1
      have hu := e12 (by rw [← e11]; omega)
      have hgl := grown_le w (0 + (n + 1)) 0 E
      have hC : CR ρ (.c .u) u ((n + 1) * siz (types P) E) (([] : List Value).toArray ++ vs.toArray ++ Builtin.zeroCells zv.cells (grownCap w (0 + (n + 1)) 0 E - (0 + (n + 1)))) := by
        rw [hu]
        refine CR.sets (n := 0) (cs := #[]) (fun i hi => by omega) g1 e10 (by rw [← e11]; omega) (by rw [← e11]; exact hcapu) fun j hj => ?_
        rw [if_pos ⟨by omega, by omega⟩]
        simp only [List.append_toArray, List.nil_append, Nat.sub_zero]
        rw [Array.getElem?_append_left (by simp; rw [hvl, ← hs]; omega)]
        simp
      have hsz : (([] : List Value).toArray ++ vs.toArray ++ Builtin.zeroCells zv.cells (grownCap w (0 + (n + 1)) 0 E - (0 + (n + 1)))).size = grownCap w (0 + (n + 1)) 0 E * siz (types P) E := by
        simp only [Array.size_append, List.size_toArray, List.length_nil, size_zeroCells, hvl, hzs, hs]
        rw [Nat.sub_mul]
        have := Nat.mul_le_mul_right i.size hgl
        simp only [Nat.zero_add] at this ⊢; omega
      obtain ⟨k1, k2, k3⟩ := (hR.drew).newC (ty := E) (κ := grownCap w (0 + (n + 1)) 0 E) (q := siz (types P) E) f2 f1 (by rw [hsz]; exact Nat.mul_le_mul_right _ (by omega)) (fun hh => by omega) (fun _ => hsz) hC
      refine ⟨_, .slice (some ⟨w.heap.size, 0, none⟩) (n + 1) (grownCap w (0 + (n + 1)) 0 E), _, k1, k2, ?_, k3, by omega, ?_⟩
      · simp only [den, up_self, Option.map_some, if_true]; rfl
      · refine exe a w _ _ ?_
        rw [nilv hTR]
        have hbig : (2 * (0 + (n + 1)) + 1000) * i.bytes ≤ 281474976710656 := by
          have := Nat.le_of_ble_eq_true e7
          rw [hb] at this
          have h2 : (2 * (n + 1) + 1000) * i.bytes ≤ 281474976710656 := this
          rw [Nat.zero_add]; exact h2
        have := run_app_new (P := P) (T := T) (U := U) (ty := o.type) (base := none) (os := []) (sLen := 0) (sCap := 0) (und_under hT).1 hU' hi hzv g2 (by rw [← hs]; exact g4 _ rfl) (by simp [Builtin.firstCells]) (by omega) (by omega) hbig
        rw [this]
        simp
  · rw [fN_eq] at e6
    obtain ⟨e7, e8⟩ := ifT_fin e6
    have hbig : (2 * (m + n) + 1000) * i.bytes ≤ 281474976710656 := by
      have := Nat.le_of_ble_eq_true e7
      rw [hb] at this
      exact this
    cases s with
    | false =>
      have e8' : apK d E (siz (types P) E) (byt (types P) E) n l b r0 m ec (m + n) cal t h c df k = .fin v' h' c' := e8
      unfold apK at e8'
      cases hle : Nat.ble (m + n) ec with
      | true =>
        rw [hle, ifT_true rfl] at e8'
        obtain ⟨ty', m', q', z', u, f1, f2⟩ := blk_fin e8'
        rw [fN_eq] at f2
        obtain ⟨f3, f4⟩ := ifT_fin f2
        obtain ⟨u', f5, f6, f7, f8⟩ := stK_fin f4
        rw [hset_eq] at f5
        refine ⟨_, _, _, f5, fun w0 ρ a w hR hTR => ?_⟩
        obtain ⟨vs, N, g1, g2, g3, g4⟩ := e2 hR (opd_den h2 hTR)
        have hN : N = n := g3.symm
        subst hN
        obtain ⟨p, d1, d2⟩ := sl_den e5 (opd_den h1 hTR)
        have hle' : (r0 + m * siz (types P) E) + l.length ≤ m' := by rw [← len_eq]; exact Nat.le_of_ble_eq_true f3
        obtain ⟨w', s1, s2⟩ := hR.store d1 f1 g1 f6 hle'
        have hcap : (r0 + m * siz (types P) E) + l.length ≤ u.cap := by obtain ⟨_, _, k2, _⟩ := hR.row d1 f1; omega
        have f8' : u' = u.sets (r0 + m * siz (types P) E) l := f8 hcap
        rw [← f8'] at s2
        refine ⟨ρ, .slice (some ⟨p.1, r0, none⟩) (m + N) ec, w', Le.refl _, s2, by simp [den, d1], Kp.hs hR.le (by have := (hR.dom _ _ d1).1; have := hR.le; omega) (fun _ hh => by rw [f1] at hh; cases hh), Nat.le_refl _, ?_⟩
        refine exe a w w' _ ?_
        rw [d2]
        refine run_app_in (und_under hT).1 hU' hi g2 (by rw [← hs]; exact g4 w rfl) (by simpa using Nat.le_of_ble_eq_true hle) ?_
        simp only [addr_add, ← hs]
        exact s1
      | false =>
        rw [hle, ifT_false rfl] at e8'
        have hlt : ec < m + n := ble_false.1 hle
        obtain ⟨ty', m', q', z', u0, f1, f2, f3⟩ := ldK_fin e8'
        obtain ⟨u1, f4, f5, f6, f7⟩ := stK_fin (o := 0) f3
        obtain ⟨u2, f8, f9, f10, f11⟩ := stK_fin f4
        rw [fN_eq] at f8
        obtain ⟨j1, j2, j3⟩ := newC_fin f8
        refine ⟨_, _, _, j3, fun w0 ρ a w hR hTR => ?_⟩
        obtain ⟨vs, N, g1, g2, g3, g4⟩ := e2 hR (opd_den h2 hTR)
        have hN : N = n := g3.symm
        subst hN
        obtain ⟨p, d1, d2⟩ := sl_den e5 (opd_den h1 hTR)
        obtain ⟨os, c1, c2, c3, c4⟩ := hR.cells (P := P) d1 f1 f2
        have c1' : os.length = m * i.size := by rw [← hs]; exact c1
        have hvl : vs.length = N * i.size := by rw [denL_length g1, hln, hs]
        have hmn : (m + N) * siz (types P) E = m * siz (types P) E + N * siz (types P) E := Nat.add_mul _ _ _
        have hcapu : (m + N) * siz (types P) E ≤ u2.cap := j1
        have hol : ((List.range (m * siz (types P) E)).map fun j => cell z' u0 (r0 + j)).length = m * siz (types P) E := by simp
        have hu1 := f7 (by rw [← f6, ← f10]; have : ((List.range (Nat.mul m (siz (types P) E))).map fun j => cell z' u0 (r0 + j)).length = m * siz (types P) E := hol; omega)
        have hu2 := f11 (by rw [← f10]; have : Nat.mul m (siz (types P) E) = m * siz (types P) E := rfl; omega)
        have hgl := grown_le w (m + N) ec E
        have hC1 : CR ρ (.c .u) u1 (m * siz (types P) E) os.toArray := by
          rw [hu1]
          refine CR.sets (n := 0) (cs := #[]) (fun i hi => by omega) c2 f5 ?_ ?_ fun j hj => ?_
          · rw [← f6, ← f10]; have : ((List.range (Nat.mul m (siz (types P) E))).map fun j => cell z' u0 (r0 + j)).length = m * siz (types P) E := hol; omega
          · rw [← f6, ← f10]; omega
          · rw [if_pos ⟨by omega, by have : ((List.range (Nat.mul m (siz (types P) E))).map fun j => cell z' u0 (r0 + j)).length = m * siz (types P) E := hol; omega⟩]
            simp
        have hC : CR ρ (.c .u) u2 ((m + N) * siz (types P) E) (os.toArray ++ vs.toArray ++ Builtin.zeroCells zv.cells (grownCap w (m + N) ec E - (m + N))) := by
          rw [hu2]
          refine CR.sets (n := m * siz (types P) E) (cs := os.toArray) hC1 g1 f9 ?_ ?_ fun j hj => ?_
          · rw [← f10]; have : Nat.mul m (siz (types P) E) = m * siz (types P) E := rfl; omega
          · rw [← f10]; exact hcapu
          · have e0 : Nat.mul m (siz (types P) E) = m * siz (types P) E := rfl
            rw [e0]
            have hj2 : j < (os ++ vs).length := by simp only [List.length_append, c1, hvl, ← hs]; omega
            have hfull : (os.toArray ++ vs.toArray ++ Builtin.zeroCells zv.cells (grownCap w (m + N) ec E - (m + N)))[j]? = (os ++ vs)[j]? := by
              rw [Array.getElem?_append_left (by simpa using hj2)]
              simp
            rw [hfull]
            split
            · rename_i hin
              rw [List.getElem?_append_right (by omega), c1]
              rfl
            · rename_i hout
              have hjm : j < m * siz (types P) E := by omega
              exact ⟨hjm, by rw [List.getElem?_append_left (by omega)]; simp⟩
        have hsz : (os.toArray ++ vs.toArray ++ Builtin.zeroCells zv.cells (grownCap w (m + N) ec E - (m + N))).size = grownCap w (m + N) ec E * siz (types P) E := by
          simp only [Array.size_append, List.size_toArray, size_zeroCells, hvl, c1', hzs, hs]
          rw [Nat.sub_mul, ← Nat.add_mul]
          have := Nat.mul_le_mul_right i.size hgl
          omega
        obtain ⟨k1, k2, k3⟩ := (hR.drew).newC (ty := E) (κ := grownCap w (m + N) ec E) (q := siz (types P) E) j2 j1 (by rw [hsz]; exact Nat.mul_le_mul_right _ hgl) (fun hh => by omega) (fun _ => hsz) hC
        refine ⟨_, .slice (some ⟨w.heap.size, 0, none⟩) (m + N) (grownCap w (m + N) ec E), _, k1, k2, ?_, k3, by omega, ?_⟩
        · simp only [den, up_self, Option.map_some, if_true]; rfl
        · refine exe a w _ _ ?_
          rw [d2]
          refine run_app_new (und_under hT).1 hU' hi hzv g2 (by rw [← hs]; exact g4 _ rfl) ?_ hlt (by omega) hbig
          simp only [Builtin.firstCells]
          have := run_loadCells_list (P := P) w.drew ⟨p.1, r0, none⟩ os (fun j v hj => c3 j v hj)
          rw [c1'] at this
          exact this
    | true =>
      have e8' : apU d E (siz (types P) E) l b r0 m ec (m + n) cal t h c df k = .fin v' h' c' := e8
      obtain ⟨ty', m', q', z', u, f1, f2⟩ := blk_fin e8'
      obtain ⟨f3, f4⟩ := ifT_fin f2
      obtain ⟨f5, f6⟩ := ifT_fin f4
      obtain ⟨f7, f8⟩ := ifT_fin f6
      obtain ⟨f9, f10⟩ := ifT_fin f8
      obtain ⟨f11, f12⟩ := ifT_fin f10
      obtain ⟨u', g0, f13, f14, f15⟩ := stK_fin f12
      rw [fN_eq, hset_eq] at g0
      obtain ⟨j1, j2, j3⟩ := newC_fin g0
      have ht : ty' = E := Nat.eq_of_beq_eq_true f3
      have hq : q' = siz (types P) E := Nat.eq_of_beq_eq_true f5
      have hr : r0 = 0 := Nat.eq_of_beq_eq_true f7
      have he : ec = 0 := Nat.eq_of_beq_eq_true f9
      have hmm : m * siz (types P) E ≤ m' := Nat.le_of_ble_eq_true f11
      subst hr; subst he; subst ht
      refine ⟨_, _, _, j3, fun w0 ρ a w hR hTR => ?_⟩
      obtain ⟨vs, N, g1, g2, g3, g4⟩ := e2 hR (opd_den h2 hTR)
      have hN : N = n := g3.symm
      subst hN
      obtain ⟨p, d1, d2⟩ := sl_den e5 (opd_den h1 hTR)
      have d2 : a.eval x = .slice (some ⟨p.1, 0, none⟩) m p.2 := by simpa using d2
      obtain ⟨cs, q1, q2, q3, q4, q5, q6⟩ := hR.row d1 f1
      have hcs : cs.size = p.2 * siz (types P) ty' := by rw [q5 (by omega), hq]
      have hvl : vs.length = N * i.size := by rw [denL_length g1, hln, hs]
      have hmn : (m + N) * siz (types P) ty' = m * siz (types P) ty' + N * siz (types P) ty' := Nat.add_mul _ _ _
      have hns : N * siz (types P) ty' = N * i.size := by rw [hs]
      have hcapu : (m + N) * siz (types P) ty' ≤ u'.cap := j1
      have e0 : Nat.mul m (siz (types P) ty') = m * siz (types P) ty' := rfl
      have hu := f15 (by rw [← f14]; omega)
      have hac := (hR.dom _ _ d1).1
      have hkp : ∀ b', Kp h (Ev.hs (Ev.hs h b .x) c b') c := fun b' k hk e => by
        rw [hget_hs _ _ (by omega) (by omega), if_neg (by omega), hget_hs _ _ (by omega) (by omega)]
        split
        · rename_i hkb; subst hkb; rw [f1] at e; cases e
        · exact e
      by_cases hle : m + N ≤ p.2
      · -- in its place
        have hroom : m * siz (types P) ty' + vs.length ≤ cs.size := by
          rw [hvl, ← hs, ← hmn, hcs]; exact Nat.mul_le_mul_right _ hle
        have h1' : ∀ v ∈ vs, v.oneCell' = true := by
          intro v hv
          obtain ⟨ix, hix⟩ := List.mem_iff_getElem?.1 hv
          have hil : ix < l.length := by rw [← denL_length g1]; exact (List.getElem?_eq_some_iff.1 hix).1
          obtain ⟨y', hy', hd'⟩ := denL_get g1 (List.getElem?_eq_getElem hil)
          rw [hix] at hy'; cases hy'
          exact den_one (f13 _ (List.getElem_mem _)) hd'
        have hst := run_storeCells_at P p.1 (m * siz (types P) ty') ty' vs 0 cs w q1 (by omega) h1'
        have hC : CR (up ρ c p) z' u' ((m + N) * siz (types P) ty') (cs.toList.take (m * siz (types P) ty' + 0) ++ vs ++ cs.toList.drop (m * siz (types P) ty' + 0 + vs.length)).toArray := by
          refine CR.mono ?_ (hR.le_up p)
          rw [hu]
          refine CR.sets (n := m') (cs := cs) q6 g1 f13 (by rw [← f14]; omega) (by rw [← f14]; exact hcapu) fun j hj => ?_
          rw [e0]
          have hjc : j < cs.size := by omega
          split
          · rename_i hin
            simp only [Nat.add_zero, List.getElem?_toArray]
            rw [List.append_assoc, List.getElem?_append_right (by simp; omega)]
            simp only [List.length_take, Array.length_toList]
            rw [Nat.min_eq_left (by omega), List.getElem?_append_left (by rw [hvl, ← hs]; omega)]
          · rename_i hout
            have hjm : j < m * siz (types P) ty' := by omega
            refine ⟨by omega, ?_⟩
            simp only [Nat.add_zero, List.getElem?_toArray]
            rw [List.append_assoc, List.getElem?_append_left (by simp; omega), List.getElem?_take]
            simp [hjm]
        have hT' := hR.take (w' := w.setRow p.1 (cs.toList.take (m * siz (types P) ty' + 0) ++ vs ++ cs.toList.drop (m * siz (types P) ty' + 0 + vs.length)).toArray) (b := .c ty' ((m + N) * siz (types P) ty') (siz (types P) ty') z' u') j2 d1 (by rw [f1]; simp) (fun s hs' => by rw [f1] at hs'; cases hs') (by simp) (by simp)
          (by simp [World.setRow]) rfl rfl rfl (fun k hk => by simp only [World.setRow]; rw [Array.getElem?_modify, if_neg (Ne.symm hk)])
          ⟨p, _, up_self _ _ _, setRow_heap w p.1 cs _ ty' _ q1, j1, by simp; omega, fun hh => by omega, fun _ => by simp; omega, hC⟩
        refine ⟨_, .slice (some ⟨p.1, 0, none⟩) (m + N) p.2, _, hR.le_up p, hT', by simp [den, up_self], hkp _, by omega, ?_⟩
        refine exe a w _ _ ?_
        rw [d2]
        refine run_app_in (und_under hT).1 hU' hi g2 (by rw [← hs]; exact g4 w rfl) hle ?_
        simp only [addr_add, ← hs, Nat.zero_add]
        exact hst
      · -- elsewhere
        have hlt : p.2 < m + N := by omega
        obtain ⟨os, c1, c2, c3, c4⟩ := hR.cells (P := P) (o := 0) (k := m * siz (types P) ty') d1 f1 (by omega)
        have c1' : os.length = m * i.size := by rw [← hs]; exact c1
        have hgl := grown_le w (m + N) p.2 ty'
        have hosc : ∀ j, j < m * siz (types P) ty' → os[j]? = cs[j]? := by
          intro j hj
          have hjl : j < os.length := by omega
          have := c3 j _ (List.getElem?_eq_getElem hjl)
          rw [addr_add] at this
          simp only [World.cell?, q1, Nat.zero_add] at this
          rw [List.getElem?_eq_getElem hjl]
          simpa using this.symm
        have hC : CR ρ z' u' ((m + N) * siz (types P) ty') (os.toArray ++ vs.toArray ++ Builtin.zeroCells zv.cells (grownCap w (m + N) p.2 ty' - (m + N))) := by
          rw [hu]
          refine CR.sets (n := m') (cs := cs) q6 g1 f13 (by rw [← f14]; omega) (by rw [← f14]; exact hcapu) fun j hj => ?_
          rw [e0]
          have hj2 : j < (os ++ vs).length := by simp only [List.length_append, c1, hvl, ← hs]; omega
          have hfull : (os.toArray ++ vs.toArray ++ Builtin.zeroCells zv.cells (grownCap w (m + N) p.2 ty' - (m + N)))[j]? = (os ++ vs)[j]? := by
            rw [Array.getElem?_append_left (by simpa using hj2)]
            simp
          rw [hfull]
          split
          · rename_i hin
            rw [List.getElem?_append_right (by omega), c1]
            try rfl
          · rename_i hout
            have hjm : j < m * siz (types P) ty' := by omega
            exact ⟨by omega, by rw [List.getElem?_append_left (by omega)]; exact hosc j hjm⟩
        have hsz : (os.toArray ++ vs.toArray ++ Builtin.zeroCells zv.cells (grownCap w (m + N) p.2 ty' - (m + N))).size = grownCap w (m + N) p.2 ty' * siz (types P) ty' := by
          simp only [Array.size_append, List.size_toArray, size_zeroCells, hvl, c1', hzs, hs]
          rw [Nat.sub_mul, ← Nat.add_mul]
          have := Nat.mul_le_mul_right i.size hgl
          omega
        obtain ⟨k1, k2, k3⟩ := ((hR.drop hac).drew).newC (ty := ty') (κ := grownCap w (m + N) p.2 ty') (q := siz (types P) ty') j2 j1 (by rw [hsz]; exact Nat.mul_le_mul_right _ hgl) (fun hh => by omega) (fun _ => hsz) hC
        refine ⟨_, .slice (some ⟨w.heap.size, 0, none⟩) (m + N) (grownCap w (m + N) p.2 ty'), _, k1, k2, ?_, hkp _, by omega, ?_⟩
        · simp only [den, up_self, Option.map_some, if_true]; rfl
        · refine exe a w _ _ ?_
          rw [d2]
          refine run_app_new (und_under hT).1 hU' hi hzv g2 (by rw [← hs]; exact g4 _ rfl) ?_ hlt (by omega) hbig
          simp only [Builtin.firstCells]
          have := run_loadCells_list (P := P) w.drew ⟨p.1, 0, none⟩ os (fun j v hj => c3 j v hj)
          rw [c1'] at this
          exact this
end
end Ev
