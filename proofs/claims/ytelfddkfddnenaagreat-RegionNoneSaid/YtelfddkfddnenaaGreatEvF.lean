/- Memory: what stands where. -/
import Derived.Test.YtelfddkfddnenaaGreatEvE
import Derived.Maps.Own
import Derived.Maps.OwnSet
namespace Ev
open Go Go.RowKit
set_option linter.unusedVariables false
set_option linter.unusedSimpArgs false
/-- a thing in memory that the machine doesn't reckon itself: what it is, and which blocks it has -/
structure Spx where
  In : Nat → AS → World → Prop
  Ft : Nat → World → Nat → Prop
  lt : ∀ {A s w k}, In A s w → Ft A w k → k < w.heap.size
  mv : ∀ {A s w w'}, In A s w → (∀ k, Ft A w k → w'.heap[k]? = w.heap[k]?) → In A s w' ∧ ∀ k, Ft A w' k ↔ Ft A w k
def TR (ρ : Rho) (nt : Nat) (t : TM) (m : Array Value) : Prop := nt ≤ m.size ∧ ∀ i, i < nt → i < 256 → ∃ v, m[i]? = some v ∧ den ρ (tg t i) = some v
theorem TR.mono {ρ ρ' : Rho} {nt : Nat} {t : TM} {m : Array Value} (h : TR ρ nt t m) (k : Le ρ ρ') : TR ρ' nt t m :=
  ⟨h.1, fun i hi hj => let ⟨v, a, b⟩ := h.2 i hi hj; ⟨v, a, den_mono k _ b⟩⟩
theorem TR.put {ρ : Rho} {nt : Nat} {t : TM} {m : Array Value} (h : TR ρ nt t m) {n : Nat} (h1 : n < nt) (h2 : n < 256) {v : V} {x : Value} (hv : den ρ v = some x) : TR ρ nt (ts t n v) (m.setIfInBounds n x) := by
  refine ⟨by simpa using h.1, fun i hi hj => ?_⟩
  rw [tg_ts t v h2 hj]
  by_cases hin : i = n
  · subst hin
    exact ⟨x, by have := h.1; rw [Array.getElem?_setIfInBounds_self_of_lt (by omega)], by simpa using hv⟩
  · obtain ⟨y, a, b⟩ := h.2 i hi hj
    exact ⟨y, by rw [Array.getElem?_setIfInBounds_ne (Ne.symm hin)]; exact a, by rw [if_neg hin]; exact b⟩
def stt (n : Nat) : LoopState := match n with | 0 => .ready | 1 => .busy | 2 => .done | _ => .exhausted
def pnd (e : Ex) : Option Code := match e with | .nx => none | .ex i => some (.exit i) | .rt => some .ret
/-- the world at the start, and the blocks that nobody touches -/
structure Base where
  w : World
  out : Nat → Prop
  lt : ∀ k, out k → k < w.heap.size
  no : Nat → Prop
structure Bel (b : Base) (w : World) : Prop where
  os : w.os = b.w.os
  tape : w.tape = b.w.tape
  output : w.output = b.w.output
  size : b.w.heap.size ≤ w.heap.size
  block : ∀ k, b.out k → w.heap[k]? = b.w.heap[k]?
theorem Bel.below {b : Base} {w w' : World} (h : Bel b w) (k : Below w.heap.size w w') : Bel b w' :=
  ⟨k.os.trans h.os, k.tape.trans h.tape, k.output.trans h.output, Nat.le_trans h.size k.size, fun j hj => (k.block j (Nat.lt_of_lt_of_le (b.lt j hj) h.size)).trans (h.block j hj)⟩
theorem Bel.alloc {b : Base} {w : World} (h : Bel b w) (o : Obj) : Bel b (w.alloc o) := h.below ((Below.refl _ _).alloc (Nat.le_refl _) o)
section
variable (X : Spx) (P : Program)
/-- a block is what the machine says -/
def BR (ρ : Rho) (k : Nat) (w : World) : Blk → Prop
  | .x => True
  | .df => ∃ p, ρ k = some p ∧ w.heap[p.1]? = some (.deferred (some []))
  | .sp a => ∃ p, ρ k = some p ∧ X.In p.1 a w
  | .lp st pe g t => ∃ p L fn bd, ρ k = some p ∧ w.heap[p.1]? = some (.loop L) ∧ L.state = stt st ∧ L.pending = pnd pe ∧ P.funcs[g]? = some fn ∧ fn.body = some bd ∧ findR bd = [(L.params, L.assign, L.body)] ∧ TR ρ fn.ntmps t L.tmps
  | .c ty n q z t => ∃ p cs, ρ k = some p ∧ w.heap[p.1]? = some (.cells cs ty (0, 0)) ∧ n ≤ t.cap ∧ n ≤ cs.size ∧ (q = 0 → cs.size = n) ∧ (q ≠ 0 → cs.size = p.2 * q) ∧ ∀ i, i < n → ∃ v, cs[i]? = some v ∧ den ρ (cell z t i) = some v
  | .mp kt et n l => ∃ p D, ρ k = some p ∧ World.ownsMap (H := Unit) w P kt (plainElem P et) p.1 n D ∧ P.underlying kt = some (.int .i64) ∧ P.underlying et = some .bool ∧ ∀ m, (Lit.int .i64 m).wf = true → D.atKey (.int .i64 m) (.lit (.bool false)) = .lit (.bool (mlk l m))
structure HR (w0 : Base) (ρ : Rho) (h : HP) (c : Nat) (w : World) : Prop where
  bel : Bel w0 w
  le : c ≤ 65536
  dom : ∀ k p, ρ k = some p → k < c ∧ (hget h k ≠ .x → ¬ w0.out p.1) ∧ p.1 < w.heap.size
  inj : ∀ k k' p p', ρ k = some p → ρ k' = some p' → hget h k ≠ .x → hget h k' ≠ .x → p.1 = p'.1 → k = k'
  blk : ∀ k, k < c → BR X P ρ k w (hget h k)
  sep : ∀ k a A, hget h k = .sp a → ρ k = some A → ∀ k' p', hget h k' ≠ .x → k' ≠ k → ρ k' = some p' → ¬ X.Ft A.1 w p'.1
  one : ∀ k k' a a', k < c → k' < c → hget h k = .sp a → hget h k' = .sp a' → k = k'
  noc : ∀ k, w0.no k → k < c ∧ ρ k = none
end
section
variable {X : Spx} {P : Program} {w0 : Base} {w w' : World} {ρ ρ' : Rho} {h : HP} {c : Nat}
theorem ownsMap_heap {P : Program} {kt : TypeId} {R : Value → Option (DataW Unit × List MemPlace)} {w w' : World} {b n : Nat} {D : DataW Unit} (h : w.ownsMap P kt R b n D) (e : w'.heap[b]? = w.heap[b]?) : w'.ownsMap P kt R b n D := by
  obtain ⟨es, clock, hb, F⟩ := h
  exact ⟨es, clock, e.trans hb, F⟩
theorem BR.mono {k : Nat} {b : Blk} (H : BR X P ρ k w b) (hl : Le ρ ρ') (hw : ∀ p, ρ k = some p → w'.heap[p.1]? = w.heap[p.1]?) (hs : ∀ a p, b = .sp a → ρ k = some p → X.In p.1 a w → X.In p.1 a w') : BR X P ρ' k w' b := by
  cases b with
  | x => trivial
  | df => obtain ⟨p, h1, h2⟩ := H; exact ⟨p, hl _ _ h1, (hw p h1).trans h2⟩
  | sp a => obtain ⟨p, h1, h2⟩ := H; exact ⟨p, hl _ _ h1, hs a p rfl h1 h2⟩
  | lp st pe g t =>
    obtain ⟨p, L, fn, bd, h1, h2, h3, h4, h5, h6, h7, h8⟩ := H
    exact ⟨p, L, fn, bd, hl _ _ h1, (hw p h1).trans h2, h3, h4, h5, h6, h7, h8.mono hl⟩
  | c ty n q z t =>
    obtain ⟨p, cs, h1, h2, h3, h4, h5, h6, h7⟩ := H
    exact ⟨p, cs, hl _ _ h1, (hw p h1).trans h2, h3, h4, h5, h6, fun i hi => let ⟨v, a, b⟩ := h7 i hi; ⟨v, a, den_mono hl _ b⟩⟩
  | mp kt et n l =>
    obtain ⟨p, D, h1, h2, h3⟩ := H
    exact ⟨p, D, hl _ _ h1, ownsMap_heap h2 (hw p h1), h3⟩
/-- a block that is there has a place -/
theorem BR.has {k : Nat} {b : Blk} (H : BR X P ρ k w b) (hb : b ≠ .x) : ∃ p, ρ k = some p := by
  cases b with
  | x => exact absurd rfl hb
  | df => obtain ⟨p, h1, _⟩ := H; exact ⟨p, h1⟩
  | sp a => obtain ⟨p, h1, _⟩ := H; exact ⟨p, h1⟩
  | lp st pe g t => obtain ⟨p, L, fn, bd, h1, _⟩ := H; exact ⟨p, h1⟩
  | c ty n q z t => obtain ⟨p, cs, h1, _⟩ := H; exact ⟨p, h1⟩
  | mp kt et n l => obtain ⟨p, D, h1, _⟩ := H; exact ⟨p, h1⟩
/-- a new place's number -/
def up (ρ : Rho) (c : Nat) (p : Nat × Nat) : Rho := fun k => if k = c then some p else ρ k
theorem up_self (ρ : Rho) (c : Nat) (p : Nat × Nat) : up ρ c p c = some p := by simp [up]
theorem HR.le_up (H : HR X P w0 ρ h c w) (p : Nat × Nat) : Le ρ (up ρ c p) := fun k q hk => by
  have := (H.dom k q hk).1
  simp only [up, if_neg (show k ≠ c by omega)]; exact hk
theorem HR.noc_up (H : HR X P w0 ρ h c w) (p : Nat × Nat) : ∀ k, w0.no k → k < c + 1 ∧ up ρ c p k = none := fun k hk => by
  have := H.noc k hk
  refine ⟨by omega, ?_⟩
  unfold up
  rw [if_neg (by omega)]; exact this.2
/-- a new block -/
theorem HR.new (H : HR X P w0 ρ h c w) {b : Blk} (hc : c ≤ 65535) (o : Obj) (q : Nat) (hb : b ≠ .x) (hs : ∀ a, b ≠ .sp a) (hB : BR X P (up ρ c (w.heap.size, q)) c (w.alloc o) b) :
    HR X P w0 (up ρ c (w.heap.size, q)) (Ev.hs h c b) (c + 1) (w.alloc o) := by
  have hg : ∀ k, k < c + 1 → hget (Ev.hs h c b) k = if k = c then b else hget h k := fun k hk => hget_hs b h (by omega) (by omega)
  have hw : ∀ k, k < w.heap.size → (w.alloc o).heap[k]? = w.heap[k]? := fun k hk => Below.heap_alloc w o k hk
  have hdom : ∀ k p, up ρ c (w.heap.size, q) k = some p → (k = c ∧ p = (w.heap.size, q)) ∨ (k ≠ c ∧ ρ k = some p) := fun k p hk => by
    unfold up at hk
    split at hk
    · exact .inl ⟨by assumption, (Option.some.inj hk).symm⟩
    · exact .inr ⟨by assumption, hk⟩
  have hFt : ∀ k a A, k < c → hget h k = .sp a → ρ k = some A → X.In A.1 a (w.alloc o) ∧ ∀ j, X.Ft A.1 (w.alloc o) j ↔ X.Ft A.1 w j := fun k a A hk hb hA => by
    have := H.blk k hk; rw [hb] at this
    obtain ⟨p, h1, h2⟩ := this
    rw [h1] at hA; cases hA
    exact X.mv h2 fun j hj => hw j (X.lt h2 hj)
  refine ⟨H.bel.alloc o, by omega, fun k p hk => ?_, fun k k' p p' hk hk' hx hx' e => ?_, fun k hk => ?_, fun k a A hb' hA k' p' hx' hne hk' => ?_, fun k k' a a' hk hk' h1 h2 => ?_, H.noc_up _⟩
  · rcases hdom k p hk with ⟨rfl, rfl⟩ | ⟨h1, h2⟩
    · exact ⟨by omega, fun _ hh => absurd (w0.lt _ hh) (by have := H.bel.size; omega), by simp⟩
    · obtain ⟨a, b, d⟩ := H.dom k p h2
      exact ⟨by omega, fun hx => b (by rw [hg k (by omega), if_neg h1] at hx; exact hx), by simp; omega⟩
  · rcases hdom k p hk with ⟨rfl, rfl⟩ | ⟨h1, h2⟩ <;> rcases hdom k' p' hk' with ⟨rfl, rfl⟩ | ⟨h3, h4⟩
    · rfl
    · have := (H.dom _ _ h4).2.2; simp only at e; omega
    · have := (H.dom _ _ h2).2.2; simp only at e; omega
    · have d1 := (H.dom _ _ h2).1
      have d2 := (H.dom _ _ h4).1
      rw [hg k (by omega), if_neg h1] at hx
      rw [hg k' (by omega), if_neg h3] at hx'
      exact H.inj k k' p p' h2 h4 hx hx' e
  · rw [hg k hk]
    split
    · rename_i e; subst e; exact hB
    · rename_i hne
      have hk' : k < c := by omega
      refine (H.blk k hk').mono (H.le_up _) (fun p hp => hw _ (H.dom _ _ hp).2.2) fun a p ha hp hI => ?_
      exact (X.mv hI fun j hj => hw j (X.lt hI hj)).1
  · have hkc : k < c + 1 := by
      rcases hdom k A hA with ⟨rfl, _⟩ | ⟨_, h2⟩
      · omega
      · have := (H.dom _ _ h2).1; omega
    rw [hg k hkc] at hb'
    split at hb'
    · exact absurd hb' (hs a)
    · rename_i hkne
      rcases hdom k A hA with ⟨e, _⟩ | ⟨_, hA2⟩
      · exact absurd e hkne
      · have hlt := (H.dom _ _ hA2).1
        rw [(hFt k a A hlt hb' hA2).2]
        rcases hdom k' p' hk' with ⟨rfl, rfl⟩ | ⟨h3, h4⟩
        · intro hf
          have hI := H.blk k hlt; rw [hb'] at hI
          obtain ⟨p, h1, h2⟩ := hI
          rw [h1] at hA2; cases hA2
          have := X.lt h2 hf
          simp only at this; omega
        · have hlt' := (H.dom _ _ h4).1
          rw [hg k' (by omega), if_neg h3] at hx'
          exact H.sep k a A hb' hA2 k' p' hx' hne h4
  · rw [hg k hk] at h1
    rw [hg k' hk'] at h2
    split at h1
    · exact absurd h1 (hs a)
    · split at h2
      · exact absurd h2 (hs a')
      · exact H.one k k' a a' (by omega) (by omega) h1 h2
/-- another thing in a block's place -/
theorem HR.set (H : HR X P w0 ρ h c w) {a : Nat} {p : Nat × Nat} {b : Blk} (ha : ρ a = some p) (hx : hget h a ≠ .x) (hsp : ∀ s, hget h a ≠ .sp s) (hs : ∀ s, b ≠ .sp s)
    (hsz : w'.heap.size = w.heap.size) (hos : w'.os = w.os) (hta : w'.tape = w.tape) (hou : w'.output = w.output) (hw : ∀ k, k ≠ p.1 → w'.heap[k]? = w.heap[k]?) (hB : BR X P ρ a w' b) : HR X P w0 ρ (Ev.hs h a b) c w' := by
  have hac := (H.dom a p ha).1
  have hle := H.le
  have hg : ∀ k, k < c → hget (Ev.hs h a b) k = if k = a then b else hget h k := fun k hk => hget_hs b h (by omega) (by omega)
  have hFt : ∀ k s A, k < c → hget h k = .sp s → ρ k = some A → X.In A.1 s w' ∧ ∀ j, X.Ft A.1 w' j ↔ X.Ft A.1 w j := fun k s A hk hb hA => by
    have := H.blk k hk; rw [hb] at this
    obtain ⟨q, h1, h2⟩ := this
    have hq := h1
    rw [hA] at h1; cases h1
    refine X.mv h2 fun j hj => hw j fun e => ?_
    exact H.sep k s A hb hA a p hx (fun e2 => hsp s (e2 ▸ hb)) ha (e ▸ hj)
  refine ⟨⟨hos.trans H.bel.os, hta.trans H.bel.tape, hou.trans H.bel.output, by rw [hsz]; exact H.bel.size, fun k hk => (hw k fun e => (H.dom a p ha).2.1 hx (e ▸ hk)).trans (H.bel.block k hk)⟩, H.le, fun k q hk => ⟨(H.dom k q hk).1, fun hx' => (by
      rw [hg k (H.dom k q hk).1] at hx'
      split at hx'
      · rename_i e; subst e; exact (H.dom _ _ hk).2.1 hx
      · exact (H.dom _ _ hk).2.1 hx'), by rw [hsz]; exact (H.dom k q hk).2.2⟩, fun k k' q q' hk hk' hx1 hx2 e => ?_, fun k hk => ?_, fun k s A hb' hA k' p' hx' hne hk' => ?_, fun k k' s s' hk hk' h1 h2 => ?_, H.noc⟩
  · have d1 := (H.dom _ _ hk).1
    have d2 := (H.dom _ _ hk').1
    refine H.inj k k' q q' hk hk' ?_ ?_ e
    · rw [hg k d1] at hx1; split at hx1
      · rename_i e; rw [e]; exact hx
      · exact hx1
    · rw [hg k' d2] at hx2; split at hx2
      · rename_i e; rw [e]; exact hx
      · exact hx2
  · rw [hg k hk]
    split
    · rename_i e; subst e; exact hB
    · rename_i hne
      by_cases hkx : hget h k = .x
      · rw [hkx]; trivial
      · refine (H.blk k hk).mono (Le.refl _) (fun q hq => hw _ fun e => hne (H.inj k a q p hq ha hkx hx e)) fun s q hsq hq hI => ?_
        exact (hFt k s q hk hsq hq).1
  · have d1 := (H.dom _ _ hA).1
    have d2 := (H.dom _ _ hk').1
    rw [hg k d1] at hb'
    split at hb'
    · exact absurd hb' (hs s)
    · rename_i hka
      rw [(hFt k s A d1 hb' hA).2]
      refine H.sep k s A hb' hA k' p' ?_ hne hk'
      rw [hg k' d2] at hx'; split at hx'
      · rename_i e; rw [e]; exact hx
      · exact hx'
  · rw [hg k hk] at h1
    rw [hg k' hk'] at h2
    split at h1
    · exact absurd h1 (hs s)
    · split at h2
      · exact absurd h2 (hs s')
      · exact H.one k k' s s' hk hk' h1 h2
/-- a block that is forgotten -/
theorem HR.drop (H : HR X P w0 ρ h c w) {a : Nat} (ha : a < c) : HR X P w0 ρ (hs h a .x) c w := by
  have hle := H.le
  have hg : ∀ k, k < c → hget (Ev.hs h a .x) k = if k = a then .x else hget h k := fun k hk => hget_hs .x h (by omega) (by omega)
  have hgx : ∀ k p, ρ k = some p → hget (Ev.hs h a .x) k ≠ .x → hget h k ≠ .x := fun k p hk hx => by
    rw [hg k (H.dom _ _ hk).1] at hx; split at hx
    · exact absurd rfl hx
    · exact hx
  refine ⟨H.bel, H.le, fun k p hk => ⟨(H.dom k p hk).1, fun hx => (H.dom k p hk).2.1 (hgx k p hk hx), (H.dom k p hk).2.2⟩, fun k k' q q' hk hk' hx1 hx2 e => H.inj k k' q q' hk hk' (hgx _ _ hk hx1) (hgx _ _ hk' hx2) e, fun k hk => ?_, fun k s A hb' hA k' p' hx' hne hk' => ?_, fun k k' s s' hk hk' h1 h2 => ?_, H.noc⟩
  · rw [hg k hk]; split
    · trivial
    · exact H.blk k hk
  · rw [hg k (H.dom _ _ hA).1] at hb'; split at hb'
    · cases hb'
    · exact H.sep k s A hb' hA k' p' (hgx _ _ hk' hx') hne hk'
  · rw [hg k hk] at h1
    rw [hg k' hk'] at h2
    split at h1
    · cases h1
    · split at h2
      · cases h2
      · exact H.one k k' s s' hk hk' h1 h2
/-- the heap as it lies -/
theorem HR.same (H : HR X P w0 ρ h c w) (hh : w'.heap = w.heap) (hos : w'.os = w.os) (hta : w'.tape = w.tape) (hou : w'.output = w.output) : HR X P w0 ρ h c w' := by
  have hIn : ∀ A s, X.In A s w → X.In A s w' ∧ ∀ j, X.Ft A w' j ↔ X.Ft A w j := fun A s hI => X.mv hI fun j _ => by rw [hh]
  refine ⟨⟨hos.trans H.bel.os, hta.trans H.bel.tape, hou.trans H.bel.output, by rw [hh]; exact H.bel.size, fun k hk => by rw [hh]; exact H.bel.block k hk⟩, H.le, fun k q hk => by rw [hh]; exact H.dom k q hk, H.inj, fun k hk => ?_, fun k s A hb' hA k' p' hx' hne hk' => ?_, H.one, H.noc⟩
  · exact (H.blk k hk).mono (Le.refl _) (fun _ _ => by rw [hh]) fun a p _ _ hI => (hIn _ _ hI).1
  · have hI := H.blk k (H.dom _ _ hA).1; rw [hb'] at hI
    obtain ⟨p, h1, h2⟩ := hI
    have hA2 := hA
    rw [h1] at hA2; cases hA2
    rw [(hIn _ _ h2).2]
    exact H.sep k s _ hb' hA k' p' hx' hne hk'
theorem blk_fin {a : Nat} {k : Nat → Nat → Nat → Z → Ce → R} {v : V} {h' : HP} {c' : Nat} (e : blk h a k = .fin v h' c') : ∃ ty n q z t, hget h a = .c ty n q z t ∧ k ty n q z t = .fin v h' c' := by
  unfold blk at e
  cases hb : hget h a with
  | c ty n q z t => rw [hb] at e; exact ⟨ty, n, q, z, t, rfl, e⟩
  | _ => rw [hb] at e; cases e
theorem HR.row (H : HR X P w0 ρ h c w) {a ty n q : Nat} {z : Z} {t : Ce} {p : Nat × Nat} (ha : ρ a = some p) (e : hget h a = .c ty n q z t) :
    ∃ cs, w.heap[p.1]? = some (.cells cs ty (0, 0)) ∧ n ≤ t.cap ∧ n ≤ cs.size ∧ (q = 0 → cs.size = n) ∧ (q ≠ 0 → cs.size = p.2 * q) ∧ ∀ i, i < n → ∃ v, cs[i]? = some v ∧ den ρ (cell z t i) = some v := by
  have := H.blk a (H.dom _ _ ha).1; rw [e] at this
  obtain ⟨p', cs, h1, h2⟩ := this
  rw [h1] at ha; cases ha
  exact ⟨cs, h2⟩
end
end Ev
