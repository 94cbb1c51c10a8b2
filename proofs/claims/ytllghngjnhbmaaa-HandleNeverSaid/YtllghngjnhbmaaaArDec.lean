/- The contract of Decommit: what it returns, and what it turns. -/
import Derived.Test.YtllghngjnhbmaaaArPut
namespace Go.Proofs.Ytllghngjnhbmaaa.Bt
open Go Go.RowKit Go.Shelf
set_option linter.unusedVariables false

/-- the pages from a on, k of them, gone -/
def clrP (ps : List (Option Nat)) (a k : Nat) : List (Option Nat) := ps.take a ++ List.replicate k none ++ ps.drop (a + k)
theorem clrP_length (ps : List (Option Nat)) (a k : Nat) (h : a + k ≤ ps.length) : (clrP ps a k).length = ps.length := by simp [clrP]; omega
theorem clrP_get (ps : List (Option Nat)) (a k : Nat) (h : a + k ≤ ps.length) (i : Nat) : (clrP ps a k)[i]? = if a ≤ i ∧ i < a + k then some none else ps[i]? := by
  unfold clrP
  by_cases h1 : i < a
  · rw [List.append_assoc, List.getElem?_append_left (by rw [List.length_take]; omega), List.getElem?_take, if_pos h1, if_neg (by omega)]
  · by_cases h2 : i < a + k
    · rw [List.append_assoc, List.getElem?_append_right (by rw [List.length_take]; omega), List.length_take, List.getElem?_append_left (by rw [List.length_replicate]; omega), List.getElem?_replicate, if_pos (by omega), if_pos (by omega)]
    · rw [List.getElem?_append_right (by rw [List.length_append, List.length_take, List.length_replicate]; omega), List.length_append, List.length_take, List.length_replicate, List.getElem?_drop, if_neg (by omega)]
      congr 1; omega
def clrM (m : Nat → UInt8) (a k : Nat) : Nat → UInt8 := fun i => if a * 4096 ≤ i ∧ i < (a + k) * 4096 then 0 else m i

theorem run_clear (w : World) (P : Nat) (ps : List (Option Nat)) (a k c : Nat) (hk : 0 < k) (h : a + k ≤ ps.length) (hP : w.heap[P]? = some (.cells (rowV ps) 89 (0, 0))) (ty : TypeId) :
    (Builtin.clear_ #[86] ty #[.slice (some ⟨P, a, none⟩) k c]).run Try.prog w = .ok (.tuple #[]) (w.setRow P (rowV (clrP ps a k))) := by
  obtain ⟨i0, hi, hz0, hz1, hz2⟩ := info_parts Try.infoPtr
  have hz : (Builtin.zeroCells (Value.pointer none).cells k).toList = List.replicate k (.pointer none) := by
    apply List.ext_getElem?
    intro j
    by_cases hj : j < k
    · simp [Builtin.zeroCells, Value.cells, hj, Nat.mod_one]
    · rw [List.getElem?_eq_none (by simp [Builtin.zeroCells, Value.cells]; omega), List.getElem?_eq_none (by simp; omega)]
  have hst := run_storeCells_at Try.prog P a 89 (List.replicate k (.pointer none)) 0 (rowV ps) w hP (by simp [rowV]; omega) (fun v hv => by rw [List.eq_of_mem_replicate hv]; rfl)
  have he : ((rowV ps).toList.take (a + 0) ++ List.replicate k (Value.pointer none) ++ (rowV ps).toList.drop (a + 0 + (List.replicate k (Value.pointer none)).length)).toArray = rowV (clrP ps a k) := by
    simp [rowV, clrP, ptrV, List.map_take, List.map_drop, List.map_replicate]
  rw [he] at hst
  obtain ⟨k', rfl⟩ : ∃ k', k = k' + 1 := ⟨k - 1, by omega⟩
  simp [Builtin.clear_, run_underlying Try.underlying86, zeroValue, typeInfo, hi, hz0, hz]
  rw [hst]; rfl
section
variable {A P n cap : Nat} {s : ASt} {ps : List (Option Nat)} {p : Option Addr} {w : World}
theorem cleared (h : ArX A s P ps p n cap w) (a k : Nat) (hk : a + k ≤ s.L) :
    ArX A { s with mm := clrM s.mm a k } P (clrP ps a k) p n cap (w.setRow P (rowV (clrP ps a k))) ∧ Step A P ps (clrP ps a k) w (w.setRow P (rowV (clrP ps a k))) := by
  have hkl : a + k ≤ ps.length := by rw [h.len]; exact hk
  have hget : ∀ i b : Nat, (clrP ps a k)[i]? = some (some b) → ps[i]? = some (some b) ∧ ¬ (a ≤ i ∧ i < a + k) := fun i b hi => by
    rw [clrP_get ps a k hkl] at hi
    by_cases c : a ≤ i ∧ i < a + k
    · rw [if_pos c] at hi; cases hi
    · rw [if_neg c] at hi; exact ⟨hi, c⟩
  refine ⟨{ h with
    len := by rw [clrP_length ps a k hkl]; exact h.len
    hd := (setRow_other _ _ _ _ h.ap).trans h.hd
    row := setRow_heap _ _ _ _ _ _ h.row
    pg := fun i b hi => ?_
    no := fun i hi j hj => ?_
    un := fun i b hi => h.un i b (hget i b hi).1
    edges := h.edges.keep fun b off e => setRow_other _ _ _ _ (h.eap b off e).2.1
    apg := fun i b hi => h.apg i b (hget i b hi).1
    one := fun i j b hi hj => h.one i j b (hget i b hi).1 (hget j b hj).1
    eap := fun b off e => ⟨(h.eap b off e).1, (h.eap b off e).2.1, fun i hi => (h.eap b off e).2.2 i (hget i b hi).1⟩ }, ⟨rfl, rfl, rfl, by rw [setRow_size]; exact Nat.le_refl _, fun k _ hn => setRow_other _ _ _ _ (fun e => hn (.inr (.inl e))), fun i b hi => .inl (hget i b hi).1⟩⟩
  · obtain ⟨h1, h2⟩ := hget i b hi
    refine (setRow_other _ _ _ _ (h.apg i b h1).2).trans ((h.pg i b h1).trans ?_)
    rw [pg_ext fun j hj => ?_]
    show s.mm (i * 4096 + j) = clrM s.mm a k (i * 4096 + j)
    unfold clrM
    rw [if_neg]
    rintro ⟨x1, x2⟩
    exact h2 ⟨by omega, by omega⟩
  · show clrM s.mm a k (i * 4096 + j) = 0
    unfold clrM
    by_cases c : a * 4096 ≤ i * 4096 + j ∧ i * 4096 + j < (a + k) * 4096
    · rw [if_pos c]
    · rw [if_neg c]
      rw [clrP_get ps a k hkl] at hi
      rw [if_neg (by rintro ⟨x1, x2⟩; exact c ⟨by omega, by omega⟩)] at hi
      exact h.no i hi j hj

def decE (s : ASt) (a k : Int) : Int := if countE s.L a k ≠ 0 then countE s.L a k else if countR s.L s.es a k < k then 8 else 0
def decS (s : ASt) (a k : Int) : ASt := if decE s a k = 0 then { s with es := laidS s.L s.es a k false, mm := clrM s.mm a.toNat k.toNat } else s
end
end Go.Proofs.Ytllghngjnhbmaaa.Bt
