/- Closures; rows made; parts of rows and texts; texts out of bytes. -/
import Derived.Test.YtelfddkfddnenaaGreatEvN
import Derived.Laws.MakeOwn
import Derived.Laws.BytesString
namespace Ev
open Go Go.RowKit
set_option linter.unusedVariables false
set_option linter.unusedSimpArgs false
theorem rdL_eq {t : TM} : ∀ {l : List OP} {k : List V → R}, rdL t l k = k (l.map fun o => o t)
  | [], _ => rfl
  | o :: l, k => by
    show rdL t l (fun l => k (o t :: l)) = _
    rw [rdL_eq]; rfl
theorem byK_fin : ∀ {l : List V} {k : List Nat → R} {v : V} {h : HP} {c : Nat}, byK l k = .fin v h c → ∃ s, k s = .fin v h c ∧ ∀ ρ r, denL ρ l = some r → r = (s.map fun (m : Nat) => (m : Int)).map (Value.int .u8)
  | [], k, v, h, c, H => ⟨[], H, fun ρ r hr => by simp [denL] at hr; simp [← hr]⟩
  | x :: l, k, v, h, c, H => by
    have H' : asN x (fun q m => ifT (Nat.beq q 4) (byK l fun l => k (m :: l)) (.bad 44)) = .fin v h c := H
    obtain ⟨q, m, e1, e2⟩ := asN_fin H'
    obtain ⟨e3, e4⟩ := ifT_fin e2
    obtain ⟨s, g1, g2⟩ := byK_fin e4
    have hq : q = 4 := Nat.eq_of_beq_eq_true e3
    refine ⟨m :: s, g1, fun ρ r hr => ?_⟩
    obtain ⟨y, ys, rfl, h1, h2⟩ := denL_cons.1 hr
    rw [g2 ρ ys h2, nat_den e1 h1, hq]
    rfl
theorem push_str (s : List Nat) : ∀ (r : List Nat), (s.map fun (m : Nat) => (m : Int)).foldl (fun r n => r.push (UInt8.ofNat n.toNat)) (str r) = str (r ++ s) := by
  induction s with
  | nil => intro r; simp
  | cons m s ih =>
    intro r
    simp only [List.map_cons, List.foldl_cons]
    have : (str r).push (UInt8.ofNat (m : Int).toNat) = str (r ++ [m]) := by
      apply ByteArray.ext
      simp [str, ByteArray.push]
    rw [this, ih]
    simp
theorem str_nil : str [] = ByteArray.empty := rfl
theorem run_bounds {P : Program} {w : World} {s : Bool} {len cap l h m : Nat} {low high max : Option Value} (hm : (max = none ∧ m = cap) ∨ ∃ k, max = some (.int k m) ∧ m ≤ cap)
    (hh : (high = none ∧ max = none ∧ h = len) ∨ ∃ k, high = some (.int k h) ∧ h ≤ m) (hl : (low = none ∧ l = 0) ∨ ∃ k, low = some (.int k l) ∧ l ≤ h) :
    (Instr.sliceBounds s len cap low high max).run P w = .ok (l, h, m) w := by
  have hb : ∀ (k : IntKind) (i y : Nat) (code : BoundsCode), i ≤ y → (Instr.sliceBound (.int k i) y code).run P w = .ok i w := fun k i y code hi => by
    simp [Instr.sliceBound, asIntOf, hi]
  rcases hm with ⟨rfl, rfl⟩ | ⟨km, rfl, hm⟩ <;> rcases hh with ⟨rfl, h0, rfl⟩ | ⟨kh, rfl, hh⟩ <;> rcases hl with ⟨rfl, rfl⟩ | ⟨kl, rfl, hl⟩ <;> first
    | (exfalso; cases h0; done)
    | (simp [Instr.sliceBounds, Sem.run_bind, hb, *]; done)
theorem bnd_fin {nt : Nat} {t : TM} {lo : Option Operand} {o : Option OP} {n : Nat} {k : Nat → R} {v : V} {h : HP} {c : Nat} (ho : cOpt nt lo = .mk o) (H : bnd t o n k = .fin v h c) :
    ∃ m, k m = .fin v h c ∧ ((lo = none ∧ m = n) ∨ ((∃ x, lo = some x) ∧ ∀ (ρ : Rho) (a : Act), TR ρ nt t a.tmps → ∃ kk, lo.map a.eval = some (.int kk m))) := by
  cases lo with
  | none => cases ho; exact ⟨n, H, .inl ⟨rfl, rfl⟩⟩
  | some x =>
    have ho' : (match cOpd nt x with | .mk x => Bx.mk (some x) | .no => .no) = Bx.mk o := ho
    cases hy : cOpd nt x with
    | no => rw [hy] at ho'; cases ho'
    | mk y =>
      rw [hy] at ho'
      cases ho'
      obtain ⟨kk, m, e1, e2⟩ := asN_fin H
      exact ⟨m, e2, .inr ⟨⟨x, rfl⟩, fun ρ a hT => ⟨kd kk, by simp [nat_den e1 (opd_den hy hT)]⟩⟩⟩
section
variable {X : Spx} {P : Program} {nt : Nat} {o : Oper} {d : DS}
theorem snd_mkf {g : FuncId} {fs cs : Array Operand} {os ps : List OP} (hop : o.op = .makeFunc (.func g) fs cs) (hd : cDst nt o.dst = .mk d) (h1 : cOpds nt fs.toList = .mk os) (h2 : cOpds nt cs.toList = .mk ps) : VSnd X P nt d (fMkf d g os ps) o := by
  refine VSnd.of (by rw [hop]; simp) hd fun cal t h c df k v' h' c' e => ?_
  have e0 : rdL t os (fun fs => rdL t ps fun cs => d (.f g fs cs) t fun t => k t h c df) = .fin v' h' c' := e
  rw [rdL_eq, rdL_eq] at e0
  refine ⟨_, e0, fun w0 ρ a w hR hT => ⟨.func (.func g) (fs.map a.eval) (cs.map a.eval), ?_, ?_⟩⟩
  · have d1 := opds_den h1 hT
    have d2 := opds_den h2 hT
    simp only [den, d1, d2, Option.bind_some, Option.map_some, Option.some.injEq]
    congr 1 <;> (apply Array.ext'; simp)
  · simp [execOp, hop, Instr.makeFunc]
theorem snd_bs {s T E : TypeId} {x : Operand} {y : OP} (hop : o.op = .convert s T x) (hd : cDst nt o.dst = .mk d) (h1 : cOpd nt x = .mk y) (hs : und (types P) s = some (.slice E)) (hE : und (types P) E = some (.int .u8)) (hT : und (types P) T = some .string) : VSnd X P nt d (fBs d y) o := by
  have run : ∀ (a : Act) (w : World) b l q S, a.eval x = .slice b l q → (Conv.bytesToString (.slice b l q)).run P w = .ok (.string S) w → (execOp a.eval o).run P w = .ok (.value (.string S)) w := by
    intro a w b l q S hv hc
    simp only [execOp, hop, hv]
    rw [Sem.run_bind, run_convert_bytes_string w s T E b l q (und_under hs).1 (und_under hE).1 (und_under hT).1, hc]; rfl
  refine VSnd.of (by rw [hop]; simp) hd fun cal t h c df k v' h' c' e => ?_
  rcases asL_fin e with ⟨e1, e2⟩ | ⟨b, r, n, q, s', e1, e2⟩
  · refine ⟨_, e2, fun w0 ρ a w hR hTR => ⟨.string .empty, by simp [den, str_nil], ?_⟩⟩
    have hv := opd_den h1 hTR
    rw [e1] at hv
    simp only [den, Option.some.injEq] at hv
    exact run a w none 0 0 _ hv.symm (by simp [Conv.bytesToString])
  · obtain ⟨ty, m, q', z, u, e3, e4, e5⟩ := ldK_fin e2
    obtain ⟨l, e6, e7⟩ := byK_fin e5
    refine ⟨_, e6, fun w0 ρ a w hR hTR => ⟨.string (str l), by simp [den], ?_⟩⟩
    obtain ⟨p, d1, d2⟩ := sl_den e1 (opd_den h1 hTR)
    obtain ⟨vs, c1, c2, c3, c4⟩ := hR.cells (P := P) d1 e3 e4
    rw [e7 ρ vs c2] at c4
    refine run a w _ _ _ _ d2 ?_
    rw [run_bytesToString w _ n _ _ c4]
    have := push_str l []
    rw [str_nil] at this
    rw [this]; simp
theorem snd_mks {T E : Nat} {x y : Operand} {y1 y2 : OP} {l : List Value} {z : Z} (hop : o.op = .makeSlice T x y) (hd : cDst nt o.dst = .mk d) (h1 : cOpd nt x = .mk y1) (h2 : cOpd nt y = .mk y2) (hT : und (types P) T = some (.slice E)) (hz : zOf (types P) E = some l) (hzz : zer l = some z) (hl : l.length = siz (types P) E) (hpos : 0 < siz (types P) E) : OSnd X P nt (fMks d E (siz (types P) E) (byt (types P) E) z y1 y2) o := by
  refine OSnd.mem (by rw [hop]; simp) hd fun cal _ t h c df k v' h' c' e => ?_
  obtain ⟨k1, m, e1, e2⟩ := asN_fin e
  obtain ⟨k2, n, e3, e4⟩ := asN_fin e2
  obtain ⟨e5, e6⟩ := ifT_fin e4
  obtain ⟨e7, e8⟩ := ifT_fin e6
  obtain ⟨e9, e10⟩ := ifT_fin e8
  rw [fN_eq] at e10
  obtain ⟨e11, e12, e13⟩ := newC_fin e10
  refine ⟨_, _, _, e13, fun w0 ρ a w hR hTR => ?_⟩
  obtain ⟨i, zv, hi, hzv, hcl⟩ := zOf_zero hz
  obtain ⟨ie, hie, hs, hb⟩ := siz_pos hpos
  rw [hi] at hie; cases hie
  have d1 := nat_den e1 (opd_den h1 hTR)
  have d2 := nat_den e3 (opd_den h2 hTR)
  have hmn : m ≤ n := Nat.le_of_ble_eq_true e5
  have hn : n ≤ 281474976710656 := Nat.le_of_ble_eq_true e7
  have hw : byt (types P) E * n ≤ 281474976710656 := Nat.le_of_ble_eq_true e9
  have hcap : n * siz (types P) E ≤ (ce0 (n * siz (types P) E)).cap := e11
  have hsz : zv.cells.size = siz (types P) E := by rw [← hl, ← hcl]; simp
  have hC : CR ρ z (ce0 (n * siz (types P) E)) (n * siz (types P) E) (madeCells zv.cells (n * siz (types P) E)) := by
    intro j hj
    obtain ⟨v, g1, g2⟩ := zer_pat hzz ρ j (by omega)
    refine ⟨v, ?_, ?_⟩
    · unfold madeCells
      have hjl : j % l.length < l.length := Nat.mod_lt _ (by omega)
      have hzl : zv.cells = l.toArray := by rw [← hcl]
      rw [hzl]
      simp [hj]
      rw [List.getElem?_eq_getElem hjl] at g1
      simpa [hjl] using g1
    · unfold cell
      rw [orD_u (cget_ce0 _ _ (by omega))]; exact g2
  have hms : (madeCells zv.cells (n * siz (types P) E)).size = n * siz (types P) E := by simp [madeCells]
  obtain ⟨g1, g2, g3⟩ := hR.newC (ty := E) (κ := 0) (q := 0) e12 e11 (by rw [hms]; exact Nat.le_refl _) (fun _ => hms) (fun hh => absurd rfl hh) hC
  refine ⟨_, .slice (some ⟨w.heap.size, 0, none⟩) m n, _, g1, g2, by simp [den, up_self], g3, by omega, ?_⟩
  have hbytes : (i.bytes : Int) * (n : Int) ≤ 281474976710656 := by
    rw [← hb]
    have : ((byt (types P) E * n : Nat) : Int) ≤ 281474976710656 := by omega
    rwa [Int.natCast_mul] at this
  have hr := run_make (P := P) w T E i zv (und_under hT).1 hi hzv (kd k1) (kd k2) m n (by omega) (by omega) hbytes (by omega)
  simp only [Int.toNat_natCast] at hr
  rw [← hs] at hr
  simp only [execOp, hop, d1, d2]
  rw [Sem.run_bind, hr]; rfl
end
end Ev
