/- Parts of rows and texts. -/
import Derived.Test.YtelfddkfddnenaaGreatEvO
namespace Ev
open Go Go.RowKit
set_option linter.unusedVariables false
set_option linter.unusedSimpArgs false
section
variable {X : Spx} {P : Program} {nt : Nat} {o : Oper} {d : DS}
theorem cOpt_none {lo : Option Operand} (h : cOpt nt lo = .mk none) : lo = none := by
  cases lo with
  | none => rfl
  | some x =>
    exfalso
    have h' : (match cOpd nt x with | .mk x => Bx.mk (some x) | .no => .no) = Bx.mk none := h
    cases hy : cOpd nt x <;> rw [hy] at h' <;> cases h'
theorem cOpt_some {lo : Option Operand} {y : OP} (h : cOpt nt lo = .mk (some y)) : ∃ x, lo = some x ∧ cOpd nt x = .mk y := by
  cases lo with
  | none => cases h
  | some x =>
    have h' : (match cOpd nt x with | .mk x => Bx.mk (some x) | .no => .no) = Bx.mk (some y) := h
    cases hy : cOpd nt x with
    | no => rw [hy] at h'; cases h'
    | mk y' => rw [hy] at h'; cases h'; exact ⟨x, rfl, hy⟩
theorem extract_str (l : List Nat) (a b : Nat) : (str l).extract a b = str ((l.drop a).take (b - a)) := by
  apply ByteArray.ext
  simp [str, ByteArray.data_extract, List.map_take, List.map_drop, List.extract_eq_take_drop]
theorem snd_sls {T : TypeId} {x : Operand} {lo hi : Option Operand} {y : OP} {ol oh : Option OP} (hop : o.op = .slice T x lo hi none) (hd : cDst nt o.dst = .mk d) (h1 : cOpd nt x = .mk y) (h2 : cOpt nt lo = .mk ol) (h3 : cOpt nt hi = .mk oh) (hT : und (types P) T = some .string) : VSnd X P nt d (fSls d y ol oh) o := by
  refine VSnd.of (by rw [hop]; simp) hd fun cal t h c df k v' h' c' e => ?_
  obtain ⟨s, e1, e2⟩ := asS_fin e
  obtain ⟨r, e3, e4⟩ := bnd_fin h3 e2
  obtain ⟨l, e5, e6⟩ := bnd_fin h2 e3
  obtain ⟨e7, e8⟩ := ifT_fin e5
  obtain ⟨e9, e10⟩ := ifT_fin e8
  rw [fL_eq, take_eq, drop_eq] at e10
  rw [len_eq] at e4 e9
  refine ⟨_, e10, fun w0 ρ a w hR hTR => ⟨.string ((str s).extract l r), by simp [den, extract_str], ?_⟩⟩
  have hv := str_den e1 (opd_den h1 hTR)
  have hlr : l ≤ r := Nat.le_of_ble_eq_true e7
  have hrs : r ≤ s.length := Nat.le_of_ble_eq_true e9
  have hb : (Instr.sliceBounds false (str s).size (str s).size (lo.map a.eval) (hi.map a.eval) none).run P w = .ok (l, r, (str s).size) w := by
    refine run_bounds (.inl ⟨rfl, rfl⟩) ?_ ?_
    · rcases e4 with ⟨rfl, rfl⟩ | ⟨⟨x, hx⟩, hk⟩
      · exact .inl ⟨rfl, rfl, (str_size s).symm⟩
      · obtain ⟨kk, hkk⟩ := hk ρ a hTR
        exact .inr ⟨kk, hkk, by rw [str_size]; exact hrs⟩
    · rcases e6 with ⟨rfl, rfl⟩ | ⟨⟨x, hx⟩, hk⟩
      · exact .inl ⟨rfl, rfl⟩
      · obtain ⟨kk, hkk⟩ := hk ρ a hTR
        exact .inr ⟨kk, hkk, hlr⟩
  simp only [execOp, hop, hv, Option.map_none, Instr.sliceAt, Instr.slice]
  simp [Sem.run_bind, run_underlying (und_under hT).1, hb]
theorem snd_slp {T E n : Nat} {x : Operand} {lo hi mx : Option Operand} {y : OP} {ol oh om : Option OP} (hop : o.op = .slice T x lo hi mx) (hd : cDst nt o.dst = .mk d) (h1 : cOpd nt x = .mk y) (h2 : cOpt nt lo = .mk ol) (h3 : cOpt nt hi = .mk oh) (h4 : cOpt nt mx = .mk om) (hhm : (oh.isNone && om.isSome) = false) (hT : und (types P) T = some (.array n E)) (hok : okI (types P) E = true) : VSnd X P nt d (fSlp d (siz (types P) E) n y ol oh om) o := by
  refine VSnd.of (by rw [hop]; simp) hd fun cal t h c df k v' h' c' e => ?_
  obtain ⟨b, r0, e1, e2⟩ := asP_fin e
  obtain ⟨l, e5, e6⟩ := bnd_fin h2 e2
  obtain ⟨r, e3, e4⟩ := bnd_fin h3 e5
  obtain ⟨m, e7, e8⟩ := bnd_fin h4 e3
  obtain ⟨e9, e10⟩ := ifT_fin e7
  obtain ⟨e11, e12⟩ := ifT_fin e10
  obtain ⟨e13, e14⟩ := ifT_fin e12
  rw [fN_eq, fN_eq, fN_eq] at e14
  have hlr : l ≤ r := Nat.le_of_ble_eq_true e9
  have hrm : r ≤ m := Nat.le_of_ble_eq_true e11
  have hmn : m ≤ n := Nat.le_of_ble_eq_true e13
  refine ⟨_, e14, fun w0 ρ a w hR hTR => ?_⟩
  obtain ⟨p, d1, d2⟩ := ptr_den e1 (opd_den h1 hTR)
  obtain ⟨D, hD⟩ := okI_some hok
  obtain ⟨ie, hie, hs, _⟩ := (und_under hD).2
  have hb : (Instr.sliceBounds false n n (lo.map a.eval) (hi.map a.eval) (mx.map a.eval)).run P w = .ok (l, r, m) w := by
    refine run_bounds ?_ ?_ ?_
    · rcases e8 with ⟨rfl, rfl⟩ | ⟨⟨x, hx⟩, hk⟩
      · exact .inl ⟨rfl, rfl⟩
      · obtain ⟨kk, hkk⟩ := hk ρ a hTR
        exact .inr ⟨kk, hkk, hmn⟩
    · rcases e4 with ⟨rfl, rfl⟩ | ⟨⟨x, hx⟩, hk⟩
      · refine .inl ⟨rfl, ?_, rfl⟩
        have : oh = none := by cases h3; rfl
        subst this
        cases om with
        | none => rw [cOpt_none h4]; rfl
        | some _ => simp at hhm
      · obtain ⟨kk, hkk⟩ := hk ρ a hTR
        exact .inr ⟨kk, hkk, hrm⟩
    · rcases e6 with ⟨rfl, rfl⟩ | ⟨⟨x, hx⟩, hk⟩
      · exact .inl ⟨rfl, rfl⟩
      · obtain ⟨kk, hkk⟩ := hk ρ a hTR
        exact .inr ⟨kk, hkk, hlr⟩
  have hadd : (if m = l then (⟨p.1, r0, none⟩ : Addr) else (⟨p.1, r0, none⟩ : Addr).add (l * ie.size)) = ⟨p.1, ifT (Nat.beq m l) r0 (r0 + l * ie.size), none⟩ := by
    by_cases hml : m = l
    · rw [if_pos hml, ifT_true (by rw [hml]; exact Nat.beq_refl l)]
    · rw [if_neg hml, ifT_false (by cases hb2 : Nat.beq m l with
        | false => rfl
        | true => exact absurd (Nat.eq_of_beq_eq_true hb2) hml), addr_add]
  refine ⟨.slice (some ⟨p.1, ifT (Nat.beq m l) r0 (r0 + l * ie.size), none⟩) (r - l) (m - l), by simp only [den, d1, Option.map_some, hs]; rfl, ?_⟩
  simp only [execOp, hop, d2, Instr.sliceAt]
  simp only [Sem.run_bind, run_underlying (und_under hT).1, Result.andThen_ok, Instr.sureAddr, Sem.run_pure, hb, run_sizeOf P hie, hadd]
theorem snd_sli {T E : Nat} {x : Operand} {lo hi mx : Option Operand} {y : OP} {ol oh om : Option OP} (hop : o.op = .slice T x lo hi mx) (hd : cDst nt o.dst = .mk d) (h1 : cOpd nt x = .mk y) (h2 : cOpt nt lo = .mk ol) (h3 : cOpt nt hi = .mk oh) (h4 : cOpt nt mx = .mk om) (hhm : (oh.isNone && om.isSome) = false) (hT : und (types P) T = some (.slice E)) (hok : okI (types P) E = true) : VSnd X P nt d (fSli d (siz (types P) E) y ol oh om) o := by
  obtain ⟨D, hD⟩ := okI_some hok
  obtain ⟨ie, hie, hs, _⟩ := (und_under hD).2
  have run : ∀ (a : Act) (w : World) b n cp l r m, a.eval x = .slice b n cp → (Instr.sliceBounds true n cp (lo.map a.eval) (hi.map a.eval) (mx.map a.eval)).run P w = .ok (l, r, m) w →
      (execOp a.eval o).run P w = .ok (.value (.slice (if m = l then b else b.map (·.add (l * ie.size))) (r - l) (m - l))) w := by
    intro a w b n cp l r m hv hb
    simp only [execOp, hop, hv, Instr.sliceAt, Instr.slice]
    simp only [Sem.run_bind, run_underlying (und_under hT).1, Result.andThen_ok, hb, run_sizeOf P hie, Sem.run_pure]
  refine VSnd.of (by rw [hop]; simp) hd fun cal t h c df k v' h' c' e => ?_
  rcases asL_fin e with ⟨e1, e2⟩ | ⟨b, r0, n, q, s, e1, e2⟩
  · obtain ⟨l, e5, e6⟩ := bnd_fin h2 e2
    obtain ⟨r, e3, e4⟩ := bnd_fin h3 e5
    cases om with
    | some _ => cases e3
    | none =>
      obtain ⟨e7, e8⟩ := ifT_fin e3
      obtain ⟨e9, e10⟩ := ifT_fin e8
      have hl : l = 0 := Nat.eq_of_beq_eq_true e7
      have hr : r = 0 := Nat.eq_of_beq_eq_true e9
      subst hl; subst hr
      have hmx := cOpt_none h4
      subst hmx
      refine ⟨_, e10, fun w0 ρ a w hR hTR => ⟨.slice none 0 0, by simp [den], ?_⟩⟩
      have hv := opd_den h1 hTR
      rw [e1] at hv
      simp only [den, Option.some.injEq] at hv
      have hb : (Instr.sliceBounds true 0 0 (lo.map a.eval) (hi.map a.eval) none).run P w = .ok (0, 0, 0) w := by
        refine run_bounds (.inl ⟨rfl, rfl⟩) ?_ ?_
        · rcases e4 with ⟨rfl, _⟩ | ⟨⟨x, hx⟩, hk⟩
          · exact .inl ⟨rfl, rfl, rfl⟩
          · obtain ⟨kk, hkk⟩ := hk ρ a hTR; exact .inr ⟨kk, hkk, Nat.le_refl _⟩
        · rcases e6 with ⟨rfl, _⟩ | ⟨⟨x, hx⟩, hk⟩
          · exact .inl ⟨rfl, rfl⟩
          · obtain ⟨kk, hkk⟩ := hk ρ a hTR; exact .inr ⟨kk, hkk, Nat.le_refl _⟩
      rw [run a w none 0 0 0 0 0 hv.symm hb]; rfl
  · obtain ⟨l, e5, e6⟩ := bnd_fin h2 e2
    obtain ⟨r, e3, e4⟩ := bnd_fin h3 e5
    obtain ⟨e7, e8⟩ := ifT_fin e3
    have hlr : l ≤ r := Nat.le_of_ble_eq_true e7
    have hlo : ∀ {ρ : Rho} {a : Act}, TR ρ nt t a.tmps → (lo.map a.eval = none ∧ l = 0) ∨ ∃ k, lo.map a.eval = some (.int k l) ∧ l ≤ r := by
      intro ρ a hTR
      rcases e6 with ⟨rfl, rfl⟩ | ⟨⟨x, hx⟩, hk⟩
      · exact .inl ⟨rfl, rfl⟩
      · obtain ⟨kk, hkk⟩ := hk ρ a hTR; exact .inr ⟨kk, hkk, hlr⟩
    cases s with
    | false =>
      obtain ⟨m, e9, e10⟩ := bnd_fin h4 e8
      obtain ⟨e11, e12⟩ := ifT_fin e9
      obtain ⟨e13, e14⟩ := ifT_fin e12
      rw [fN_eq, fN_eq, fN_eq] at e14
      have hrm : r ≤ m := Nat.le_of_ble_eq_true e11
      have hmn : m ≤ q := Nat.le_of_ble_eq_true e13
      refine ⟨_, e14, fun w0 ρ a w hR hTR => ?_⟩
      obtain ⟨p, d1, d2⟩ := sl_den e1 (opd_den h1 hTR)
      have hb : (Instr.sliceBounds true n q (lo.map a.eval) (hi.map a.eval) (mx.map a.eval)).run P w = .ok (l, r, m) w := by
        refine run_bounds ?_ ?_ (hlo hTR)
        · rcases e10 with ⟨rfl, rfl⟩ | ⟨⟨x, hx⟩, hk⟩
          · exact .inl ⟨rfl, rfl⟩
          · obtain ⟨kk, hkk⟩ := hk ρ a hTR; exact .inr ⟨kk, hkk, hmn⟩
        · rcases e4 with ⟨rfl, rfl⟩ | ⟨⟨x, hx⟩, hk⟩
          · refine .inl ⟨rfl, ?_, rfl⟩
            have : oh = none := by cases h3; rfl
            subst this
            cases om with
            | none => rw [cOpt_none h4]; rfl
            | some _ => simp at hhm
          · obtain ⟨kk, hkk⟩ := hk ρ a hTR; exact .inr ⟨kk, hkk, hrm⟩
      have hadd : (if m = l then some (⟨p.1, r0, none⟩ : Addr) else (some (⟨p.1, r0, none⟩ : Addr)).map (·.add (l * ie.size))) = some ⟨p.1, ifT (Nat.beq m l) r0 (r0 + l * ie.size), none⟩ := by
        by_cases hml : m = l
        · rw [if_pos hml, ifT_true (by rw [hml]; exact Nat.beq_refl l)]
        · rw [if_neg hml, ifT_false (by cases hb2 : Nat.beq m l with
            | false => rfl
            | true => exact absurd (Nat.eq_of_beq_eq_true hb2) hml), Option.map_some, addr_add]
      refine ⟨.slice (some ⟨p.1, ifT (Nat.beq m l) r0 (r0 + l * ie.size), none⟩) (r - l) (m - l), by simp only [den, d1, Option.map_some, hs]; rfl, ?_⟩
      rw [run a w _ _ _ _ _ _ d2 hb, hadd]
    | true =>
      obtain ⟨ty, mb, q', z, u, g1, g2⟩ := blk_fin e8
      obtain ⟨g3, g4⟩ := ifT_fin g2
      obtain ⟨g5, g6⟩ := ifT_fin g4
      obtain ⟨g7, g8⟩ := ifT_fin g6
      obtain ⟨g9, g10⟩ := ifT_fin g8
      obtain ⟨g11, g12⟩ := ifT_fin g10
      cases om with
      | some _ => cases g12
      | none =>
        have hmx := cOpt_none h4
        subst hmx
        have hq' : q' = siz (types P) E := Nat.eq_of_beq_eq_true g3
        have hqm : (q + n) * siz (types P) E ≤ mb := Nat.le_of_ble_eq_true g7
        have hrn : r ≤ n := Nat.le_of_ble_eq_true g9
        have hpos : 0 < siz (types P) E := Nat.le_of_ble_eq_true g11
        have key : ∀ {w0 ρ} {a : Act} {w}, HR X P w0 ρ h c w → TR ρ nt t a.tmps → ∃ p, ρ b = some p ∧ q + n ≤ p.2 ∧ a.eval x = .slice (some ⟨p.1, r0, none⟩) n (p.2 - q) ∧ (Instr.sliceBounds true n (p.2 - q) (lo.map a.eval) (hi.map a.eval) none).run P w = .ok (l, r, p.2 - q) w := by
          intro w0 ρ a w hR hTR
          obtain ⟨p, d1, d2⟩ := sl_den e1 (opd_den h1 hTR)
          obtain ⟨cs, _, _, k3, _, k5, _⟩ := hR.row d1 g1
          have hsz := k5 (by omega)
          have hle : q + n ≤ p.2 := by
            rw [hq'] at hsz
            have : (q + n) * siz (types P) E ≤ p.2 * siz (types P) E := by omega
            exact Nat.le_of_mul_le_mul_right this hpos
          refine ⟨p, d1, hle, d2, run_bounds (.inl ⟨rfl, rfl⟩) ?_ (hlo hTR)⟩
          rcases e4 with ⟨rfl, rfl⟩ | ⟨⟨x, hx⟩, hk⟩
          · exact .inl ⟨rfl, rfl, rfl⟩
          · obtain ⟨kk, hkk⟩ := hk ρ a hTR; exact .inr ⟨kk, hkk, by omega⟩
        cases hl0 : Nat.beq l 0 with
        | true =>
          have g12' : (d (.sl b r0 r q true) t fun t => k t h c df) = .fin v' h' c' := by have := g12; simp only [hl0] at this; exact this
          have hl : l = 0 := Nat.eq_of_beq_eq_true hl0
          subst hl
          refine ⟨_, g12', fun w0 ρ a w hR hTR => ?_⟩
          obtain ⟨p, d1, hle, d2, hb⟩ := key hR hTR
          refine ⟨.slice (some ⟨p.1, r0, none⟩) r (p.2 - q), by simp [den, d1], ?_⟩
          rw [run a w _ _ _ _ _ _ d2 hb]
          have : (if p.2 - q = 0 then some (⟨p.1, r0, none⟩ : Addr) else (some (⟨p.1, r0, none⟩ : Addr)).map (·.add (0 * ie.size))) = some ⟨p.1, r0, none⟩ := by
            split
            · rfl
            · simp [addr_add]
          rw [this]; rfl
        | false =>
          have g12' : ifT (Nat.blt l n) (fN (Nat.add r0 (Nat.mul l (siz (types P) E))) fun o => fN (Nat.sub r l) fun r => fN (Nat.add q l) fun e => d (.sl b o r e true) t fun t => k t h c df) (.bad 53) = .fin v' h' c' := by have := g12; simp only [hl0] at this; exact this
          obtain ⟨g13, g14⟩ := ifT_fin g12'
          rw [fN_eq, fN_eq, fN_eq] at g14
          have hln : l < n := Nat.le_of_ble_eq_true g13
          refine ⟨_, g14, fun w0 ρ a w hR hTR => ?_⟩
          obtain ⟨p, d1, hle, d2, hb⟩ := key hR hTR
          refine ⟨.slice (some ⟨p.1, r0 + l * ie.size, none⟩) (r - l) (p.2 - q - l), ?_, ?_⟩
          · have : p.2 - (q + l) = p.2 - q - l := by omega
            simp only [den, d1, Option.map_some, if_true]
            rw [hs]
            show some (Value.slice (some ⟨p.1, r0 + l * ie.size, none⟩) (r - l) (p.2 - (q + l))) = _
            rw [this]
          · rw [run a w _ _ _ _ _ _ d2 hb, if_neg (by omega), Option.map_some, addr_add]
end
end Ev
