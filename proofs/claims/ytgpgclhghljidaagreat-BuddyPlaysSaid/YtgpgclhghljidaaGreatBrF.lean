/- Rows of the document's runs that are grown by append. -/
import Derived.Test.YtgpgclhghljidaaGreatBrE
namespace Go.Proofs.YtgpgclhghljidaaGreat.Bt
open Go Go.RowKit Go.Shelf
set_option linter.unusedVariables false
set_option linter.unusedSimpArgs false
def rnC (y : Nat × Nat × Bool) : List Value := [.int .i64 (y.1 : Int), .int .i64 (y.2.1 : Int), .bool y.2.2]
def rnL : List (Nat × Nat × Bool) → List Value
  | [] => []
  | y :: l => rnC y ++ rnL l
theorem rnL_append (l l' : List (Nat × Nat × Bool)) : rnL (l ++ l') = rnL l ++ rnL l' := by
  induction l with
  | nil => rfl
  | cons c l ih => show rnC c ++ rnL (l ++ l') = (rnC c ++ rnL l) ++ rnL l'; rw [ih, List.append_assoc]
theorem rnL_length (l : List (Nat × Nat × Bool)) : (rnL l).length = l.length * 3 := by
  induction l with
  | nil => rfl
  | cons c l ih => show (rnC c ++ rnL l).length = _; rw [List.length_append, ih]; simp [rnC]; omega
theorem rnL_get (l : List (Nat × Nat × Bool)) (j : Nat) (h : j < l.length) (k : Nat) (hk : k < 3) : (rnL l)[j * 3 + k]? = (rnC (l.getD j r0))[k]? := by
  induction l generalizing j with
  | nil => simp at h
  | cons c l ih =>
    show (rnC c ++ rnL l)[j * 3 + k]? = _
    rcases j with _ | j
    · rw [List.getElem?_append_left (by simp [rnC]; omega)]; simp
    · rw [List.getElem?_append_right (by simp [rnC]; omega)]
      have e : (j + 1) * 3 + k - (rnC c).length = j * 3 + k := by simp [rnC]; omega
      rw [e, ih j (by simpa using h)]; simp
theorem own_rn {W : World} {base : Nat} {v : Value} {L : List (Nat × Nat × Bool)} (h : W.ownsRow base 51 3 v L.length (rnL L)) : ∃ p cap, v = .slice p L.length cap ∧ RnAt W p L := by
  rcases h.2 with ⟨rfl, h0⟩ | ⟨g, cap, cur, rfl, _, hg, hnc, _, hcs, htk⟩
  · exact ⟨none, 0, by rw [h0], .inl (List.eq_nil_of_length_eq_zero h0)⟩
  · refine ⟨_, cap, rfl, .inr ⟨g, rfl, (Array.getElem?_eq_some_iff.1 hg).1, fun j hj => ?_⟩⟩
    have key : ∀ k, k < 3 → W.cell? ⟨g, j * 3 + k, none⟩ = (rnC (L.getD j r0))[k]? := fun k hk => by
      rw [(cell_blk hg _).1, ← rnL_get L j hj k hk, ← htk, List.getElem?_take, if_pos (by omega)]; simp
    have k0 := key 0 (by omega); have k1 := key 1 (by omega); have k2 := key 2 (by omega)
    exact ⟨by simpa [rnC] using k0, by simpa [rnC] using k1, by simpa [rnC] using k2⟩
theorem rn_grow {W w1 w : World} {base n k : Nat} {e : TypeId} {v : Value} {xs : List Value} (hrow : W.ownsRow base e k v n xs) (hgrow : W.grownBy w1 v.ownBlock) (hs : base ≤ W.heap.size) (hb : Below base w W) : Below base w w1 :=
  hb.grown hgrow (by omega) fun j ej => by
    rcases hrow.2 with ⟨rfl, _⟩ | ⟨g, cap, cur, rfl, h, _⟩
    · simp [Value.ownBlock] at ej
    · obtain rfl : g = j := by simpa [Value.ownBlock] using ej
      exact h
theorem Tryz.infoRn : (Tryz.prog.info? 51).map (fun i => (i.zero, i.size, i.bytes)) = some (some (.agg #[.int .i64 0, .int .i64 0, .bool false]), 3, 24) := by kernel_rfl
theorem rn_new {w : World} (y : Nat × Nat × Bool) (T : TypeId) {g : Nat} (hg : w.heap.size = g) : ∀ j u, (rnC y)[j]? = some u → (w.alloc (.cells #[.int .i64 (y.1 : Int), .int .i64 (y.2.1 : Int), .bool y.2.2] T)).cell? ((⟨g, 0, none⟩ : Addr).add j) = some u := fun j u h => by
  subst hg
  have e : (⟨w.heap.size, 0, none⟩ : Addr).add j = ⟨w.heap.size, j, none⟩ := by simp only [Addr.add]; split <;> simp_all
  rw [e, (cell_blk (heap_new w _) _).1, ← h]
  unfold rnC
  simp
/-- those that don't begin at a place -/
def wr8 (L : List (Nat × Nat × Bool)) (a : Int) : List (Nat × Nat × Bool) := L.filter fun y => decide ((y.1 : Int) ≠ a)
theorem wr8_len (L : List (Nat × Nat × Bool)) (a : Int) : (wr8 L a).length ≤ L.length := List.length_filter_le _ _
theorem wr8_next {L : List (Nat × Nat × Bool)} {a : Int} {j : Nat} (h : j < L.length) : wr8 (L.take (j + 1)) a = if ((L.getD j r0).1 : Int) = a then wr8 (L.take j) a else wr8 (L.take j) a ++ [L.getD j r0] := by
  rw [take_snoc h]
  generalize L.getD j r0 = c
  unfold wr8
  rw [List.filter_append]
  by_cases e : (c.1 : Int) = a
  · rw [if_pos e]; simp [e]
  · rw [if_neg e]; simp [e]
end Go.Proofs.YtgpgclhghljidaaGreat.Bt
