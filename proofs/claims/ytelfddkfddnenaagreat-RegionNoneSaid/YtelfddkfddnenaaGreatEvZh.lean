/- temporaries that are put into others; the temporaries of an activation that are laid over another's. -/
import Derived.Test.YtelfddkfddnenaaGreatEvZg
namespace Ev
open Go Go.RowKit
set_option linter.unusedVariables false
set_option linter.unusedSimpArgs false
section
variable {nt : Nat}
theorem tmp_tg {n : Nat} {o : OP} (h : cOpd nt (.tmp n) = .mk o) (t : TM) : o t = tg t n ∧ n < nt ∧ n < 256 := by
  have hh := h
  unfold cOpd at h
  cases hb : okT nt n with
  | false => simp only [hb] at h; cases h
  | true =>
    obtain ⟨h1, h2⟩ := okT_iff.1 hb
    refine ⟨?_, h1, h2⟩
    simp only [hb, cond_true] at h
    rw [gOp_eq h2 h]
theorem mkT_ok : ∀ {ns : List Nat} {l : List (OP × DS)}, cLk nt ns = .mk l → ∀ (t0 t : TM) (k : TM → R), ∃ t', mkT l t0 t k = k t' ∧ ∀ n, n < 256 → tg t' n = if n ∈ ns then tg t n else tg t0 n
  | [], l, h, t0, t, k => by cases h; exact ⟨t0, rfl, fun n _ => by simp⟩
  | m :: ns, l, h, t0, t, k => by
    unfold cLk at h
    split at h
    · rename_i o d l' h1 h2 h3
      cases h
      obtain ⟨e1, e2, e3⟩ := tmp_tg h1 t
      obtain ⟨t1, ht1, e4⟩ := dst_eq h2 (o t) t0 fun t0 => mkT l' t0 t k
      obtain ⟨t', e5, e6⟩ := mkT_ok h3 t1 t k
      refine ⟨t', ?_, fun n hn => ?_⟩
      · show d (o t) t0 (fun t0 => mkT l' t0 t k) = _
        rw [e4, e5]
      · rw [e6 n hn]
        have : t1 = ts t0 m (o t) := ht1
        subst this
        by_cases hin : n ∈ ns
        · rw [if_pos hin, if_pos (List.mem_cons_of_mem _ hin)]
        · rw [if_neg hin, tg_ts _ _ e3 hn]
          by_cases hnm : n = m
          · subst hnm; rw [if_pos rfl, if_pos (by simp), e1]
          · rw [if_neg hnm, if_neg (by simp [hnm, hin])]
    · cases h
end
/-- the activation a0, with a's temporaries at ns -/
def lay (a0 a : Act) : List Nat → Act
  | [] => a0
  | n :: ns => { lay a0 a ns with tmps := (lay a0 a ns).tmps.setIfInBounds n ((a.tmps[n]?).getD undef) }
theorem lay_size (a0 a : Act) : ∀ ns, (lay a0 a ns).tmps.size = a0.tmps.size
  | [] => rfl
  | n :: ns => by simp [lay, lay_size a0 a ns]
theorem lay_defers (a0 a : Act) : ∀ ns, (lay a0 a ns).defers = a0.defers
  | [] => rfl
  | n :: ns => by simp [lay, lay_defers a0 a ns]
theorem lay_get (a0 a : Act) (hs : a.tmps.size = a0.tmps.size) : ∀ (ns : List Nat) (i : Nat), (lay a0 a ns).tmps[i]? = if i ∈ ns then a.tmps[i]? else a0.tmps[i]?
  | [], i => by simp [lay]
  | n :: ns, i => by
    have ih := lay_get a0 a hs ns i
    have hz := lay_size a0 a ns
    simp only [lay]
    by_cases hi : n = i
    · subst hi
      rw [if_pos (by simp)]
      by_cases hlt : n < (lay a0 a ns).tmps.size
      · rw [Array.getElem?_setIfInBounds_self_of_lt hlt, Array.getElem?_eq_getElem (by omega)]; rfl
      · rw [Array.getElem?_eq_none (by simp; omega), Array.getElem?_eq_none (by omega)]
    · rw [Array.getElem?_setIfInBounds_ne hi, ih]
      by_cases hin : i ∈ ns
      · rw [if_pos hin, if_pos (List.mem_cons_of_mem _ hin)]
      · rw [if_neg hin, if_neg (by simp [hin, Ne.symm hi])]
end Ev
