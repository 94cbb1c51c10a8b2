/- blocks that are there too early: out of reach, then taken in. -/
import Derived.Test.YtelfddkfddnenaaGreatEvZc
namespace Ev
open Go Go.RowKit
set_option linter.unusedVariables false
set_option linter.unusedSimpArgs false
section
variable {X : Spx} {P : Program} {b b' : Base} {w w' : World} {ρ : Rho} {h : HP} {c : Nat}
theorem Bel.refl (b : Base) : Bel b b.w := ⟨rfl, rfl, rfl, Nat.le_refl _, fun _ _ => rfl⟩
theorem Bel.chain (h1 : Bel b b'.w) (ho : ∀ k, b.out k → b'.out k) (h2 : Bel b' w) : Bel b w :=
  ⟨h2.os.trans h1.os, h2.tape.trans h1.tape, h2.output.trans h1.output, Nat.le_trans h1.size h2.size, fun k hk => (h2.block k (ho k hk)).trans (h1.block k hk)⟩
/-- another base -/
theorem HR.base (H : HR X P b ρ h c w) (hb : Bel b' w) (hd : ∀ k p, ρ k = some p → hget h k ≠ .x → ¬ b'.out p.1) (hn : ∀ k, b'.no k → k < c ∧ ρ k = none) : HR X P b' ρ h c w :=
  ⟨hb, H.le, fun k p hk => ⟨(H.dom k p hk).1, hd k p hk, (H.dom k p hk).2.2⟩, H.inj, H.blk, H.sep, H.one, hn⟩
/-- back to the first base -/
theorem HR.back (H : HR X P b' ρ h c w) (h1 : Bel b b'.w) (ho : ∀ k, b.out k → b'.out k) (hn : ∀ k, b.no k → b'.no k) : HR X P b ρ h c w :=
  H.base (h1.chain ho H.bel) (fun k p hk hx hh => (H.dom k p hk).2.1 hx (ho _ hh)) fun k hk => H.noc k (hn k hk)
/-- a place kept for later -/
theorem HR.rsv (H : HR X P b ρ h c w) (hc : c ≤ 65535) : HR X P b ρ (Ev.hs h c .x) (c + 1) w ∧ Kp h (Ev.hs h c .x) c := by
  have hg : ∀ k, k < c + 1 → hget (Ev.hs h c .x) k = if k = c then .x else hget h k := fun k hk => hget_hs .x h (by omega) (by omega)
  have hgo : ∀ k p, ρ k = some p → hget (Ev.hs h c .x) k = hget h k := fun k p hk => by
    have := (H.dom k p hk).1
    rw [hg k (by omega), if_neg (by omega)]
  refine ⟨⟨H.bel, by omega, fun k p hk => ?_, fun k k' p p' hk hk' h1 h2 e => ?_, fun k hk => ?_, fun k a A hb hA k' p' hx' hne hk' => ?_, fun k k' a a' hk hk' h1 h2 => ?_, fun k hk => ?_⟩, Kp.new H hc⟩
  · have := H.dom k p hk
    exact ⟨by omega, fun hh => this.2.1 (by rw [hgo k p hk] at hh; exact hh), this.2.2⟩
  · rw [hgo k p hk] at h1
    rw [hgo k' p' hk'] at h2
    exact H.inj k k' p p' hk hk' h1 h2 e
  · rw [hg k hk]
    split
    · trivial
    · exact H.blk k (by omega)
  · rw [hgo k A hA] at hb
    rw [hgo k' p' hk'] at hx'
    exact H.sep k a A hb hA k' p' hx' hne hk'
  · rw [hg k hk] at h1
    rw [hg k' hk'] at h2
    split at h1
    · cases h1
    · split at h2
      · cases h2
      · exact H.one k k' a a' (by omega) (by omega) h1 h2
  · have := H.noc k hk
    exact ⟨by omega, this.2⟩
/-- the base with a block more that nobody touches, from now on -/
def Base.more (b : Base) (w : World) (B i : Nat) (hs : b.w.heap.size ≤ w.heap.size) (hB : B < w.heap.size) : Base :=
  ⟨w, fun k => b.out k ∨ k = B, fun k hk => by rcases hk with hk | rfl; exact Nat.lt_of_lt_of_le (b.lt k hk) hs; exact hB, fun k => b.no k ∧ k ≠ i⟩
/-- a block that is laid before its time -/
theorem HR.early (H : HR X P b ρ h c w) {i : Nat} (hi : i < c) (hx : hget h i = .x) (hn : ρ i = none) (o : Obj) (q : Nat) (hs : b.w.heap.size ≤ (w.alloc o).heap.size) (hB : w.heap.size < (w.alloc o).heap.size) :
    HR X P (b.more (w.alloc o) w.heap.size i hs hB) (up ρ i (w.heap.size, q)) h c (w.alloc o) ∧ Le ρ (up ρ i (w.heap.size, q)) := by
  have hle : Le ρ (up ρ i (w.heap.size, q)) := fun k p hk => by
    unfold up
    split
    · rename_i e; subst e; rw [hn] at hk; cases hk
    · exact hk
  have hdom : ∀ k p, up ρ i (w.heap.size, q) k = some p → (k = i ∧ p = (w.heap.size, q)) ∨ (k ≠ i ∧ ρ k = some p) := fun k p hk => by
    unfold up at hk
    split at hk
    · exact .inl ⟨by assumption, (Option.some.inj hk).symm⟩
    · exact .inr ⟨by assumption, hk⟩
  have H1 := H.below ((Below.refl w.heap.size w).alloc (Nat.le_refl _) o)
  refine ⟨⟨⟨rfl, rfl, rfl, Nat.le_refl _, fun _ _ => rfl⟩, H.le, fun k p hk => ?_, fun k k' p p' hk hk' h1 h2 e => ?_, fun k hk => ?_, fun k a A hb hA k' p' hx' hne hk' => ?_, H.one, fun k hk => ?_⟩, hle⟩
  · rcases hdom k p hk with ⟨rfl, rfl⟩ | ⟨h1, h2⟩
    · exact ⟨hi, fun hh => absurd hx hh, hB⟩
    · obtain ⟨g1, g2, g3⟩ := H1.dom k p h2
      refine ⟨g1, fun hh hout => ?_, g3⟩
      rcases hout with ho | ho
      · exact g2 hh ho
      · have := (H.dom k p h2).2.2; omega
  · rcases hdom k p hk with ⟨rfl, rfl⟩ | ⟨_, g2⟩
    · exact absurd hx h1
    · rcases hdom k' p' hk' with ⟨rfl, rfl⟩ | ⟨_, g4⟩
      · exact absurd hx h2
      · exact H1.inj k k' p p' g2 g4 h1 h2 e
  · by_cases hkx : hget h k = .x
    · rw [hkx]; trivial
    · exact (H1.blk k hk).mono hle (fun _ _ => rfl) fun _ _ _ _ hI => hI
  · rcases hdom k A hA with ⟨rfl, rfl⟩ | ⟨_, g2⟩
    · rw [hx] at hb; cases hb
    · rcases hdom k' p' hk' with ⟨rfl, rfl⟩ | ⟨_, g4⟩
      · exact absurd hx hx'
      · exact H1.sep k a A hb g2 k' p' hx' hne g4
  · obtain ⟨k1, k2⟩ := hk
    have := H.noc k k1
    refine ⟨this.1, ?_⟩
    unfold up
    rw [if_neg k2]; exact this.2
/-- .. its time has come -/
theorem HR.adopt (H : HR X P b ρ h c w) {i : Nat} {p : Nat × Nat} {bl : Blk} (hp : ρ i = some p) (hx : hget h i = .x) (hout : b.out p.1) (hs : ∀ a, bl ≠ .sp a) (hno : ∀ k a, k < c → hget h k ≠ .sp a) (hB : BR X P ρ i w bl) (hb' : Bel b' w) (ho : ∀ k, b'.out k → b.out k ∧ k ≠ p.1) (hn' : ∀ k, b'.no k → b.no k) :
    HR X P b' ρ (Ev.hs h i bl) c w := by
  have hic := (H.dom i p hp).1
  have hle := H.le
  have hg : ∀ k, k < c → hget (Ev.hs h i bl) k = if k = i then bl else hget h k := fun k hk => hget_hs bl h (by omega) (by omega)
  refine ⟨hb', H.le, fun k q hk => ⟨(H.dom k q hk).1, fun hh hq => ?_, (H.dom k q hk).2.2⟩, fun k k' q q' hk hk' h1 h2 e => ?_, fun k hk => ?_, fun k a A hb hA k' p' hx' hne hk' => ?_, fun k k' a a' hk hk' h1 h2 => ?_, fun k hk => H.noc k (hn' k hk)⟩
  · rw [hg k (H.dom k q hk).1] at hh
    split at hh
    · rename_i e; subst e; rw [hp] at hk; cases hk; exact (ho _ hq).2 rfl
    · exact (H.dom k q hk).2.1 hh (ho _ hq).1
  · rw [hg k (H.dom k q hk).1] at h1
    rw [hg k' (H.dom k' q' hk').1] at h2
    split at h1
    · rename_i e1
      split at h2
      · rename_i e2; rw [e1, e2]
      · subst e1; rw [hp] at hk; cases hk
        exact absurd (e ▸ hout) ((H.dom k' q' hk').2.1 h2)
    · split at h2
      · rename_i e2; subst e2; rw [hp] at hk'; cases hk'
        exact absurd (e.symm ▸ hout) ((H.dom k q hk).2.1 h1)
      · exact H.inj k k' q q' hk hk' h1 h2 e
  · rw [hg k hk]
    split
    · rename_i e; subst e; exact hB
    · exact H.blk k hk
  · rw [hg k (H.dom k A hA).1] at hb
    split at hb
    · exact absurd hb (hs a)
    · exact absurd hb (hno k a (H.dom k A hA).1)
  · rw [hg k hk] at h1
    split at h1
    · exact absurd h1 (hs a)
    · exact absurd h1 (hno k a hk)
end
end Ev
