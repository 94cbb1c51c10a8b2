/- Operations that make memory. -/
import Derived.Test.YtelfddkfddnenaaGreatEvL
namespace Ev
open Go Go.RowKit
set_option linter.unusedVariables false
set_option linter.unusedSimpArgs false
theorem newK_fin {b : Blk} {h : HP} {c : Nat} {k : HP → Nat → R} {v : V} {h' : HP} {c' : Nat} (e : newK b h c k = .fin v h' c') : c ≤ 65535 ∧ k (hs h c b) (c + 1) = .fin v h' c' := by
  obtain ⟨e1, e2⟩ := ifT_fin e
  rw [hset_eq, fN_eq] at e2
  exact ⟨Nat.le_of_ble_eq_true e1, e2⟩
theorem newC_fin {ty n q : Nat} {z : Z} {t : Ce} {h : HP} {c : Nat} {k : HP → Nat → R} {v : V} {h' : HP} {c' : Nat} (e : newC ty n q z t h c k = .fin v h' c') : n ≤ t.cap ∧ c ≤ 65535 ∧ k (hs h c (.c ty n q z t)) (c + 1) = .fin v h' c' := by
  obtain ⟨e1, e2⟩ := ifT_fin e
  obtain ⟨e3, e4⟩ := newK_fin e2
  exact ⟨(ceB_iff n t).1 e1, e3, e4⟩
section
variable {X : Spx} {P : Program} {w0 : Base} {w : World} {ρ : Rho} {h : HP} {c : Nat}
theorem Kp.new (H : HR X P w0 ρ h c w) {b : Blk} (hc : c ≤ 65535) : Kp h (Ev.hs h c b) c := fun k hk e => by
  rw [hget_hs b h (by omega) (by omega), if_neg (by omega)]; exact e
theorem HR.newC (H : HR X P w0 ρ h c w) {ty n q κ : Nat} {z : Z} {t : Ce} {cs : Array Value} (hc : c ≤ 65535) (h1 : n ≤ t.cap) (h2 : n ≤ cs.size) (h3 : q = 0 → cs.size = n) (h4 : q ≠ 0 → cs.size = κ * q) (hC : CR ρ z t n cs) :
    Le ρ (up ρ c (w.heap.size, κ)) ∧ HR X P w0 (up ρ c (w.heap.size, κ)) (Ev.hs h c (.c ty n q z t)) (c + 1) (w.alloc (.cells cs ty)) ∧ Kp h (Ev.hs h c (.c ty n q z t)) c := by
  refine ⟨H.le_up _, H.new hc _ κ (by simp) (by simp) ?_, Kp.new H hc⟩
  exact ⟨(w.heap.size, κ), cs, up_self _ _ _, by rw [World.alloc]; simp, h1, h2, h3, h4, hC.mono (H.le_up _)⟩
end
theorem unif_all {k : IntKind} : ∀ {l : List Value}, unif k l = true → ∀ i, i < l.length → l[i]? = some (.int k 0)
  | [], _, i, h => by simp at h
  | v :: l, hu, i, hi => by
    cases v with
    | int k' n =>
      simp only [unif, Bool.and_eq_true] at hu
      obtain ⟨⟨h1, h2⟩, h3⟩ := hu
      have hk : k = k' := by have := Nat.eq_of_beq_eq_true h1; rw [← kd_kN k, this, kd_kN]
      have hn : n = 0 := by rw [ieq_eq] at h2; simpa using h2
      subst hk; subst hn
      cases i with
      | zero => rfl
      | succ i => simpa using unif_all h3 i (by simpa using hi)
    | _ => simp [unif] at hu
theorem zer_pat {l : List Value} {z : Z} (h : zer l = some z) (ρ : Rho) (i : Nat) (hl : 0 < l.length) : ∃ v, l[i % l.length]? = some v ∧ den ρ (dfl z i) = some v := by
  have pat : ∀ {l : List Value} {x : List V}, cVs l = some x → 0 < l.length → ∃ v, l[i % l.length]? = some v ∧ den ρ (dfl (.l x l.length) i) = some v := by
    intro l x hx hl
    have hd := cVs_den (ρ := ρ) hx
    have hlen := denL_length hd
    have hlt : i % l.length < x.length := by rw [← hlen]; exact Nat.mod_lt _ hl
    exact nth_den hd hlt
  unfold zer at h
  split at h
  · rename_i k r
    cases hu : unif k r with
    | true =>
      rw [hu] at h; cases h
      refine ⟨.int k 0, ?_, by simp [dfl, den, kd_kN]⟩
      have hu' : unif k (.int k (.ofNat 0) :: r) = true := by
        simp only [unif, hu, Bool.and_true]
        rw [show ieq (Int.ofNat 0) 0 = true from rfl]
        simp
      exact unif_all hu' _ (Nat.mod_lt _ hl)
    | false =>
      rw [hu] at h
      simp only [cond_false, Option.map_eq_some_iff] at h
      obtain ⟨x, hx, rfl⟩ := h
      exact pat hx hl
  · simp only [Option.map_eq_some_iff] at h
    obtain ⟨x, hx, rfl⟩ := h
    exact pat hx hl
theorem orD_u {v : V} {z : Z} {o : Nat} (h : v = .u) : orD v z o = dfl z o := by subst h; rfl
section
variable {X : Spx} {P : Program} {nt : Nat} {o : Oper} {d : DS}
theorem snd_alloc {T : TypeId} {l : List Value} {z : Z} (hop : o.op = .alloc T) (hd : cDst nt o.dst = .mk d) (hz : zOf (types P) T = some l) (hzz : zer l = some z) (hl : l.length = siz (types P) T) : OSnd X P nt (fAlloc d T (siz (types P) T) z) o := by
  refine OSnd.mem (by rw [hop]; simp) hd fun cal _ t h c df k v' h' c' e => ?_
  obtain ⟨e1, e2, e3⟩ := newC_fin e
  refine ⟨_, _, _, e3, fun w0 ρ a w hR hT => ?_⟩
  obtain ⟨i, zv, hi, hzv, hcl⟩ := zOf_zero hz
  have hsz : zv.cells.size = siz (types P) T := by rw [← hl, ← hcl]; simp
  have hC : CR ρ z (ce0 (siz (types P) T)) (siz (types P) T) zv.cells := by
    intro j hj
    obtain ⟨v, g1, g2⟩ := zer_pat hzz ρ j (by omega)
    rw [Nat.mod_eq_of_lt (by omega)] at g1
    refine ⟨v, by rw [← hcl] at g1; simpa using g1, ?_⟩
    unfold cell
    rw [orD_u (cget_ce0 _ _ (by omega))]; exact g2
  obtain ⟨g1, g2, g3⟩ := hR.newC (ty := T) (κ := 0) (q := 0) e2 e1 (by omega) (fun _ => hsz) (fun hh => absurd rfl hh) hC
  refine ⟨_, .pointer (some ⟨w.heap.size, 0, none⟩), _, g1, g2, by simp [den, up_self], g3, by omega, ?_⟩
  simp [execOp, hop, Instr.alloc, zeroValue, typeInfo, hi, hzv, newVar, newRow]
theorem snd_box {T : TypeId} {x : Operand} {y : OP} (hop : o.op = .box T x) (hd : cDst nt o.dst = .mk d) (h1 : cOpd nt x = .mk y) : OSnd X P nt (fBox d T (siz (types P) T) y) o := by
  refine OSnd.mem (by rw [hop]; simp) hd fun cal _ t h c df k v' h' c' e => ?_
  obtain ⟨e0, e1⟩ := ifT_fin e
  have hlen : (cl (y t)).length = siz (types P) T := by rw [← len_eq]; exact Nat.eq_of_beq_eq_true e0
  obtain ⟨u, e2, e3, e8, e4⟩ := stK_fin (o := 0) e1
  obtain ⟨e5, e6, e7⟩ := newC_fin e2
  refine ⟨_, _, _, e7, fun w0 ρ a w hR hT => ?_⟩
  have hx := cl_den (opd_den h1 hT)
  have hsz : (a.eval x).cells.size = siz (types P) T := by have := denL_length hx; rw [hlen] at this; simpa using this
  have hcap0 : siz (types P) T ≤ (ce0 (siz (types P) T)).cap := e8 ▸ e5
  have hu := e4 (by omega)
  have hC : CR ρ (.c .u) u (siz (types P) T) (a.eval x).cells := by
    rw [hu]
    refine CR.sets (n := 0) (cs := #[]) (fun i hi => by omega) hx e3 (by omega) hcap0 fun i hi => ?_
    rw [if_pos ⟨by omega, by omega⟩]
    simp
  obtain ⟨g1, g2, g3⟩ := hR.newC (ty := T) (κ := 0) (q := 0) e6 e5 (by omega) (fun _ => hsz) (fun hh => absurd rfl hh) hC
  refine ⟨_, .pointer (some ⟨w.heap.size, 0, none⟩), _, g1, g2, by simp [den, up_self], g3, by omega, ?_⟩
  simp [execOp, hop, Instr.box, newVar, newRow]
end
end Ev
