/- Rows copied, and appended to. -/
import Derived.Test.YtelfddkfddnenaaGreatEvP
namespace Ev
open Go Go.RowKit
set_option linter.unusedVariables false
set_option linter.unusedSimpArgs false
section
variable {X : Spx} {P : Program} {w0 : Base} {w w' : World} {ρ ρ' : Rho} {h : HP} {c : Nat}
/-- a row that goes on under another number, in its place -/
theorem HR.take (H : HR X P w0 ρ h c w) {a : Nat} {p : Nat × Nat} {b : Blk} (hc : c ≤ 65535) (ha : ρ a = some p) (hx : hget h a ≠ .x) (hsp : ∀ s, hget h a ≠ .sp s) (hbx : b ≠ .x) (hs : ∀ s, b ≠ .sp s)
    (hsz : w'.heap.size = w.heap.size) (hos : w'.os = w.os) (hta : w'.tape = w.tape) (hou : w'.output = w.output) (hw : ∀ k, k ≠ p.1 → w'.heap[k]? = w.heap[k]?) (hB : BR X P (up ρ c p) c w' b) : HR X P w0 (up ρ c p) (Ev.hs (Ev.hs h a .x) c b) (c + 1) w' := by
  have hac := (H.dom a p ha).1
  have hle := H.le
  have hg : ∀ k, k < c + 1 → hget (Ev.hs (Ev.hs h a .x) c b) k = if k = c then b else if k = a then .x else hget h k := fun k hk => by
    rw [hget_hs b _ (by omega) (by omega)]
    split
    · rfl
    · rw [hget_hs .x h (by omega) (by omega)]
  have hdom : ∀ k q, up ρ c p k = some q → (k = c ∧ q = p) ∨ (k ≠ c ∧ ρ k = some q) := fun k q hk => by
    unfold up at hk
    split at hk
    · exact .inl ⟨by assumption, (Option.some.inj hk).symm⟩
    · exact .inr ⟨by assumption, hk⟩
  have hFt : ∀ k s A, k < c → hget h k = .sp s → ρ k = some A → X.In A.1 s w' ∧ ∀ j, X.Ft A.1 w' j ↔ X.Ft A.1 w j := fun k s A hk hb hA => by
    have := H.blk k hk; rw [hb] at this
    obtain ⟨q, h1, h2⟩ := this
    rw [hA] at h1; cases h1
    refine X.mv h2 fun j hj => hw j fun e => ?_
    exact H.sep k s A hb hA a p hx (fun e2 => hsp s (e2 ▸ hb)) ha (e ▸ hj)
  have hold : ∀ k q, k ≠ c → ρ k = some q → hget (Ev.hs (Ev.hs h a .x) c b) k ≠ .x → k ≠ a ∧ hget h k ≠ .x := fun k q hk hq hxx => by
    have := (H.dom k q hq).1
    rw [hg k (by omega), if_neg hk] at hxx
    split at hxx
    · exact absurd rfl hxx
    · exact ⟨by assumption, hxx⟩
  refine ⟨⟨hos.trans H.bel.os, hta.trans H.bel.tape, hou.trans H.bel.output, by rw [hsz]; exact H.bel.size, fun k hk => (hw k fun e => (H.dom a p ha).2.1 hx (e ▸ hk)).trans (H.bel.block k hk)⟩, by omega, fun k q hk => ?_, fun k k' q q' hk hk' hx1 hx2 e => ?_, fun k hk => ?_, fun k s A hb' hA k' p' hx' hne hk' => ?_, fun k k' s s' hk hk' h1 h2 => ?_, H.noc_up _⟩
  · rw [hsz]
    rcases hdom k q hk with ⟨rfl, rfl⟩ | ⟨h1, h2⟩
    · have := H.dom a q ha; exact ⟨by omega, fun _ => this.2.1 hx, this.2.2⟩
    · have := H.dom k q h2; exact ⟨by omega, fun hxx => this.2.1 (hold k q h1 h2 hxx).2, this.2.2⟩
  · rcases hdom k q hk with ⟨rfl, rfl⟩ | ⟨h1, h2⟩ <;> rcases hdom k' q' hk' with ⟨rfl, rfl⟩ | ⟨h3, h4⟩
    · rfl
    · obtain ⟨g1, g2⟩ := hold _ _ h3 h4 hx2
      exact absurd (H.inj k' a q' q h4 ha g2 hx e.symm) g1
    · obtain ⟨g1, g2⟩ := hold _ _ h1 h2 hx1
      exact absurd (H.inj k a q q' h2 ha g2 hx e) g1
    · exact H.inj k k' q q' h2 h4 (hold _ _ h1 h2 hx1).2 (hold _ _ h3 h4 hx2).2 e
  · rw [hg k hk]
    split
    · rename_i e; subst e; exact hB
    · rename_i hne
      split
      · trivial
      · rename_i hna
        have hk' : k < c := by omega
        by_cases hkx : hget h k = .x
        · rw [hkx]; trivial
        · refine (H.blk k hk').mono (H.le_up _) (fun q hq => hw _ fun e => hna (H.inj k a q p hq ha hkx hx e)) fun s q hsq hq hI => ?_
          exact (hFt k s q hk' hsq hq).1
  · have hkc : k < c + 1 := by
      rcases hdom k A hA with ⟨rfl, _⟩ | ⟨_, h2⟩
      · omega
      · have := (H.dom _ _ h2).1; omega
    have hb2 := hb'
    rw [hg k hkc] at hb'
    split at hb'
    · exact absurd hb' (hs s)
    · rename_i hkne
      split at hb'
      · cases hb'
      · rename_i hka
        rcases hdom k A hA with ⟨e, _⟩ | ⟨_, hA2⟩
        · exact absurd e hkne
        · have hlt := (H.dom _ _ hA2).1
          rw [(hFt k s A hlt hb' hA2).2]
          rcases hdom k' p' hk' with ⟨rfl, rfl⟩ | ⟨h3, h4⟩
          · exact H.sep k s A hb' hA2 a p' hx (fun e => hka e.symm) ha
          · exact H.sep k s A hb' hA2 k' p' (hold _ _ h3 h4 hx').2 hne h4
  · rw [hg k hk] at h1
    rw [hg k' hk'] at h2
    split at h1
    · exact absurd h1 (hs s)
    · split at h1
      · cases h1
      · split at h2
        · exact absurd h2 (hs s')
        · split at h2
          · cases h2
          · exact H.one k k' s s' (by omega) (by omega) h1 h2
end
theorem intL_den {ρ : Rho} : ∀ (l : List Nat), denL ρ (intL l) = some (l.map fun m => Value.int .u8 ((UInt8.ofNat m).toNat : Int))
  | [] => by simp [intL, denL]
  | m :: l => by
    show denL ρ (V.i 4 (m % 256) :: intL l) = _
    refine denL_cons.2 ⟨_, _, rfl, ?_, intL_den l⟩
    simp [den]; rfl
/-- what is copied, or appended -/
theorem srcK_fin {h : HP} {q : Nat} {n0 : Option Nat} {v : V} {k : Nat → List V → R} {v' : V} {h' : HP} {c' : Nat} (e : srcK h q n0 v k = .fin v' h' c') :
    ∃ n l, k n l = .fin v' h' c' ∧ ∀ {X P w0 ρ c w x}, HR X P w0 ρ h c w → den ρ v = some x → ∃ vs N, denL ρ l = some vs ∧ (Builtin.lenOf x).run P w = .ok N w ∧ n = (match n0 with | none => N | some m => Nat.min N m) ∧
      ∀ w', w'.heap = w.heap → (Builtin.firstCells q n x).run P w' = .ok vs.toArray w' := by
  have hmin : ∀ a b : Nat, ifT (Nat.ble a b) a b = Nat.min a b := fun a b => by
    cases hb : Nat.ble a b with
    | true => rw [ifT_true rfl]; exact (Nat.min_eq_left (Nat.le_of_ble_eq_true hb)).symm
    | false => rw [ifT_false rfl]; exact (Nat.min_eq_right (Nat.le_of_lt (ble_false.1 hb))).symm
  cases v with
  | s l =>
    have e' : fN (Option.rec (motive := fun _ => Nat) (len l) (fun m => ifT (Nat.ble (len l) m) (len l) m) n0) (fun m => k m (intL (take m l))) = .fin v' h' c' := e
    rw [fN_eq] at e'
    refine ⟨_, _, e', fun {X P w0 ρ c w x} hR hx => ?_⟩
    have hxs := str_den rfl hx
    refine ⟨_, l.length, intL_den _, by rw [hxs]; simp [Builtin.lenOf, str_size], ?_, fun w' hw' => ?_⟩
    · cases n0 with
      | none => rw [← len_eq]
      | some m => show ifT (Nat.ble (len l) m) (len l) m = _; rw [hmin, len_eq]
    · rw [hxs]
      have key : ∀ N, ((str l).extract 0 N).data.map (fun b => Value.int .u8 (b.toNat : Int)) = ((l.take N).map fun m => Value.int .u8 ((UInt8.ofNat m).toNat : Int)).toArray := by
        intro N
        rw [extract_str]
        apply Array.ext'
        simp only [str, List.drop_zero, Nat.sub_zero, Array.toList_map, List.map_map]
        rfl
      simp only [Builtin.firstCells, Sem.run_pure, take_eq, key]
  | ns =>
    refine ⟨0, [], e, fun {X P w0 ρ c w x} hR hx => ?_⟩
    simp only [den, Option.some.injEq] at hx
    subst hx
    refine ⟨[], 0, by simp [denL], by simp [Builtin.lenOf], by cases n0 <;> simp, fun w' _ => by simp [Builtin.firstCells]⟩
  | sl a o r e0 s0 =>
    have e' : fN (Option.rec (motive := fun _ => Nat) r (fun m => ifT (Nat.ble r m) r m) n0) (fun m => ldK h a o (Nat.mul m q) fun l => k m l) = .fin v' h' c' := e
    rw [fN_eq] at e'
    obtain ⟨ty, m, q', z, t, g1, g2, g3⟩ := ldK_fin e'
    refine ⟨_, _, g3, fun {X P w0 ρ c w x} hR hx => ?_⟩
    obtain ⟨p, d1, d2⟩ := sl_den rfl hx
    obtain ⟨vs, c1, c2, c3, c4⟩ := hR.cells (P := P) d1 g1 g2
    refine ⟨vs, r, c2, by rw [d2]; simp [Builtin.lenOf], ?_, fun w' hw' => ?_⟩
    · cases n0 with
      | none => rfl
      | some m => show ifT (Nat.ble r m) r m = _; rw [hmin]
    · rw [d2]
      simp only [Builtin.firstCells]
      have := run_loadCells_list (P := P) w' ⟨p.1, o, none⟩ vs (fun j v hj => by
        have := c3 j v hj
        simp only [World.cell?] at this ⊢
        rw [hw']; exact this)
      rw [c1] at this
      exact this
  | _ => cases e
section
variable {X : Spx} {P : Program} {nt : Nat} {o : Oper} {d : DS}
theorem snd_cpy {T E : Nat} {tt2 : TypeId} {x y : Operand} {y1 y2 : OP} {cc : Call} (hop : o.op = .call cc) (hcc : cc.callee = .builtin .copy) (ha : cc.args.toList = [x, y]) (hat : cc.argTypes.toList = [T, tt2]) (hd : cDst nt o.dst = .mk d) (h1 : cOpd nt x = .mk y1) (h2 : cOpd nt y = .mk y2) (hT : und (types P) T = some (.slice E)) (hok : okI (types P) E = true) : OSnd X P nt (fCpy d (siz (types P) E) y1 y2) o := by
  have ha' : cc.args = #[x, y] := Array.toList_inj.1 (by simpa using ha)
  have hat' : cc.argTypes = #[T, tt2] := Array.toList_inj.1 (by simpa using hat)
  obtain ⟨D, hD⟩ := okI_some hok
  obtain ⟨ie, hie, hs, _⟩ := (und_under hD).2
  have run : ∀ (a : Act) (w w' : World) b dLen dCap N vs, a.eval x = .slice b dLen dCap → (Builtin.lenOf (a.eval y)).run P w = .ok N w → (Builtin.firstCells ie.size (Nat.min N dLen) (a.eval y)).run P w = .ok vs w →
      (match b with | some p => (storeCells p vs.toList).run P w = .ok () w' | none => w' = w) → (execOp a.eval o).run P w = .ok (.value (.int .i64 (Nat.min N dLen))) w' := by
    intro a w w' b dLen dCap N vs hx hN hv hst
    simp only [execOp, hop, resolve, hcc, ha', hat', invoke, builtin]
    cases b with
    | none =>
      simp only at hst; subst hst
      simp [Builtin.copy_, run_underlying (und_under hT).1, run_sizeOf P hie, hx, hN, hv, goInt]
    | some p =>
      simp only at hst
      simp [Builtin.copy_, run_underlying (und_under hT).1, run_sizeOf P hie, hx, hN, hv, hst, goInt]
  refine OSnd.mem (by rw [hop]; simp) hd fun cal _ t h c df k v' h' c' e => ?_
  rcases asL_fin e with ⟨e1, e2⟩ | ⟨b, r0, m, q, s, e1, e2⟩
  · obtain ⟨n, l, e3, e4⟩ := srcK_fin e2
    refine ⟨_, _, _, e3, fun w0 ρ a w hR hTR => ⟨ρ, .int .i64 0, w, Le.refl _, hR, by simp [den]; rfl, Kp.refl _ _, Nat.le_refl _, ?_⟩⟩
    obtain ⟨vs, N, g1, g2, g3, g4⟩ := e4 hR (opd_den h2 hTR)
    have hv := opd_den h1 hTR
    rw [e1] at hv
    simp only [den, Option.some.injEq] at hv
    have hz : n = Nat.min N 0 := g3
    have hm0 : Nat.min N 0 = 0 := Nat.min_zero N
    have := run a w w none 0 0 N vs.toArray hv.symm g2 (by rw [← hs, ← hz]; exact g4 w rfl) rfl
    rw [hm0] at this
    exact this
  · obtain ⟨n, l, e3, e4⟩ := srcK_fin e2
    obtain ⟨ty, m', q', z, u, e5, e6⟩ := blk_fin e3
    obtain ⟨e7, e8⟩ := ifT_fin e6
    obtain ⟨u', e9, e10, e11, e12⟩ := stK_fin e8
    rw [hset_eq] at e9
    refine ⟨_, _, _, e9, fun w0 ρ a w hR hTR => ?_⟩
    obtain ⟨vs, N, g1, g2, g3, g4⟩ := e4 hR (opd_den h2 hTR)
    obtain ⟨p, d1, d2⟩ := sl_den e1 (opd_den h1 hTR)
    have hle : r0 + l.length ≤ m' := by rw [← len_eq]; exact Nat.le_of_ble_eq_true e7
    obtain ⟨w', s1, s2⟩ := hR.store d1 e5 g1 e10 hle
    have hcap : r0 + l.length ≤ u.cap := by obtain ⟨_, _, k2, _⟩ := hR.row d1 e5; omega
    rw [← e12 hcap] at s2
    refine ⟨ρ, .int .i64 (n : Int), w', Le.refl _, s2, by simp [den]; rfl, Kp.hs hR.le (by have := (hR.dom _ _ d1).1; have := hR.le; omega) (fun _ hh => by rw [e5] at hh; cases hh), Nat.le_refl _, ?_⟩
    have hz : n = Nat.min N m := g3
    have := run a w w' _ m _ N vs.toArray d2 g2 (by rw [← hs, ← hz]; exact g4 w rfl) (by simpa using s1)
    rw [← hz] at this
    exact this
end
end Ev
