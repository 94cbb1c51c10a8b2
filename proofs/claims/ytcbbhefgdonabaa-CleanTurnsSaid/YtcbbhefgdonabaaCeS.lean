/- CleanTurns: the mathematics; rows that come in. -/
import Derived.Test.YtcbbhefgdonabaaCkH
import Derived.Test.YtcbbhefgdonabaaBitsVar
import Derived.Lib.SmallJoins
import Derived.Deep.Slices
import Derived.Deep.Strs
import Derived.ChangeSame
import Derived.OpenShut
import Derived.WideShapes
import Derived.WalkSmall
namespace Go.Proofs.Ytcbbhefgdonabaa.Bt
open Go Go.RowKit Go.Shelf Go.Deep
open Go.ChangeShapes Go.WideShapes Go.ChangeAt
set_option linter.unusedVariables false
set_option linter.unusedSimpArgs false
def evE (z : Nat → Nat) (i : Nat) : Ent := ⟨i + 1, z i, z i / 2, z i * 1125899906842624⟩
def evT (z : Nat → Nat) (j : Nat) : List Ent := (List.range j).map (evE z)
def evR (z : Nat → Nat) (j c : Nat) : List Ent := (List.range' j c).map (evE z)
def kN (z : Nat → Nat) (kd : Nat → Bool) (t : Nat) : List Ent := ((List.range t).filter fun i => !kd i).map (evE z)
section
variable {z : Nat → Nat} {kd : Nat → Bool}
theorem evT_succ (j : Nat) : evT z (j + 1) = evT z j ++ [evE z j] := by unfold evT; rw [List.range_succ, List.map_append]; rfl
theorem evT_len (j : Nat) : (evT z j).length = j := by simp [evT]
theorem evR_all (n : Nat) : evR z 0 n = evT z n := by unfold evR evT; rw [List.range_eq_range']
theorem evR_succ {j c : Nat} (h : 0 < c) : evR z j c = evE z j :: evR z (j + 1) (c - 1) := by
  obtain ⟨k, rfl⟩ : ∃ k, c = k + 1 := ⟨c - 1, by omega⟩
  unfold evR; rw [List.range'_succ]; rfl
theorem kN_succ (t : Nat) : kN z kd (t + 1) = if kd t = true then kN z kd t else kN z kd t ++ [evE z t] := by
  unfold kN
  rw [List.range_succ, List.filter_append, List.map_append]
  cases h : kd t <;> simp [h]
theorem kN_len (t : Nat) : (kN z kd t).length ≤ t := by
  unfold kN; rw [List.length_map]; have := List.length_filter_le (fun i => !kd i) (List.range t); simpa using this
theorem ix_none {L : List Ent} {id : Nat} (h : ∀ e ∈ L, e.i ≠ id) : ixE L id = L.length := by
  unfold ixE
  rw [List.findIdx_eq_length]
  intro e he
  simpa using h e he
theorem ix_mid {P R : List Ent} {E : Ent} (h : ∀ e ∈ P, e.i ≠ E.i) : ixE (P ++ E :: R) E.i = P.length := by
  refine ixE_at (e := E) ?_ ?_ rfl
  · rw [List.getElem?_append_right (Nat.le_refl _)]; simp
  · have h2 := ix_none h
    rcases Nat.lt_or_ge (ixE (P ++ E :: R) E.i) P.length with c | c
    · have hl : ixE (P ++ E :: R) E.i < (P ++ E :: R).length := by rw [List.length_append]; omega
      have h3 := ixE_get hl
      rw [List.getElem_append_left c] at h3
      exact absurd h3 (h _ (List.getElem_mem _))
    · exact c
theorem kL_mid {P R : List Ent} {E : Ent} (h : ∀ e ∈ P, e.i ≠ E.i) : kL (P ++ E :: R) E.i = P ++ R ∧ gE (P ++ E :: R) E.i = E ∧ kR (P ++ E :: R) E.i = 0 := by
  have hi := ix_mid (R := R) h
  refine ⟨?_, ?_, ?_⟩
  · unfold kL; rw [hi, List.eraseIdx_append_of_length_le (Nat.le_refl _)]; simp
  · unfold gE; rw [hi, List.getElem?_append_right (Nat.le_refl _)]; simp
  · unfold kR; rw [hi, if_pos (by rw [List.length_append, List.length_cons]; omega)]
theorem kN_ids (t : Nat) : ∀ e ∈ kN z kd t, e.i ≤ t := by
  intro e he
  unfold kN at he
  obtain ⟨i, hi, rfl⟩ := List.mem_map.1 he
  have h1 := List.mem_range.1 (List.mem_filter.1 hi).1
  show i + 1 ≤ t
  omega
theorem evT_ids (t : Nat) : ∀ e ∈ evT z t, e.i ≤ t := by
  intro e he
  unfold evT at he
  obtain ⟨i, hi, rfl⟩ := List.mem_map.1 he
  have h1 := List.mem_range.1 hi
  show i + 1 ≤ t
  omega
theorem evT_add {j : Nat} (hj : j < 16) : addE (evT z j) 16 (evE z j) = 0 ∧ addL (evT z j) 16 (evE z j) = evT z (j + 1) := by
  have ha : addE (evT z j) 16 (evE z j) = 0 := by
    unfold addE
    rw [if_neg (by show ¬ (j + 1 = 0 ∨ 281474976710655 < j + 1); omega), if_neg (by rw [ix_none (fun e he => by have := evT_ids j e he; show e.i ≠ j + 1; omega)]; omega), if_neg (by rw [evT_len]; omega)]
  exact ⟨ha, by unfold addL; rw [if_pos ha, evT_succ]⟩
theorem pop_last (P : List Ent) (E : Ent) : pL (P ++ [E]) = P ∧ pE (P ++ [E]) = E ∧ pB (P ++ [E]) = true := by
  refine ⟨?_, ?_, ?_⟩
  · unfold pL; rw [show (P ++ [E]).length - 1 = P.length by simp, List.eraseIdx_append_of_length_le (Nat.le_refl _)]; simp
  · unfold pE; rw [show (P ++ [E]).length - 1 = P.length by simp, List.getElem?_append_right (Nat.le_refl _)]; simp
  · unfold pB; simp
theorem evE_ok {i : Nat} (hi : i < 16) (hz : z i < 256) : (evE z i).ok := ⟨by show i + 1 < _; omega, hz, by show z i / 2 < 256; omega, by show z i * 1125899906842624 < _; omega⟩
end
/-- bytes that came in -/
def U8Row (w : World) (p : Option Addr) (len : Nat) (z : Nat → Nat) : Prop := len = 0 ∨ ∃ b off, p = some ⟨b, off, none⟩ ∧ b < w.heap.size ∧ ∀ k, k < len → w.cell? ⟨b, off + k, none⟩ = some (.int .u8 (z k : Int)) ∧ z k < 256
theorem U8Row.below {x y : World} {p : Option Addr} {n : Nat} {z : Nat → Nat} (h : U8Row x p n z) (hb : Below x.heap.size x y) : U8Row y p n z := by
  rcases h with h | ⟨b, off, rfl, hl, hc⟩
  · exact .inl h
  · exact .inr ⟨b, off, rfl, Nat.lt_of_lt_of_le hl hb.size, fun k hk => ⟨(World.cell?_of_block (hb.block _ hl)).trans (hc k hk).1, (hc k hk).2⟩⟩
theorem u8s_of_row {w : World} {a : Option Addr} {len cap : Nat} {zs : List Int}
    (h : (a = none ∧ len = 0 ∧ cap = 0 ∧ zs = []) ∨ ∃ x, a = some x ∧ len ≤ cap ∧ cap ≤ maxLen ∧ zs.length = cap ∧ (∀ i, i < zs.length → w.cell? (x.add i) = some (.int .u8 (zs.getD i 0))) ∧ ∀ n ∈ zs, (Lit.int .u8 n).wf = true) :
    len ≤ 9223372036854775807 ∧ U8Row w a len fun k => (zs.getD k 0).toNat := by
  rcases h with ⟨_, rfl, _, _⟩ | ⟨x, rfl, h1, h2, h3, h4, h5⟩
  · exact ⟨by omega, .inl rfl⟩
  · unfold maxLen at h2
    refine ⟨by omega, ?_⟩
    by_cases h0 : len = 0
    · exact .inl h0
    · have k0 := h4 0 (by omega)
      obtain ⟨b, off, spot⟩ := x
      have hspot : spot = none := by simpa [Addr.add] using World.cell?_spot k0
      subst hspot
      have eA : ∀ j, (⟨b, off, none⟩ : Addr).add j = ⟨b, off + j, none⟩ := fun j => by
        simp only [Addr.add]; split <;> simp_all
      refine .inr ⟨b, off, rfl, World.block_lt_of_cell? _ _ k0, fun i hi => ?_⟩
      have h6 := h4 i (by omega)
      rw [eA] at h6
      have h7 := h5 (zs.getD i 0) (by rw [List.getD_eq_getElem?_getD, List.getElem?_eq_getElem (show i < zs.length by omega)]; exact List.getElem_mem _)
      have h8 := bounds_u8 h7
      refine ⟨?_, by show (zs.getD i 0).toNat < 256; omega⟩
      rw [h6]
      show _ = some (Value.int .u8 ((zs.getD i 0).toNat : Int))
      rw [Int.toNat_of_nonneg h8.1]
/-- truths that came in -/
def BlRow (w : World) (p : Option Addr) (len : Nat) (z : Nat → Bool) : Prop := len = 0 ∨ ∃ b off, p = some ⟨b, off, none⟩ ∧ b < w.heap.size ∧ ∀ k, k < len → w.cell? ⟨b, off + k, none⟩ = some (.bool (z k))
theorem BlRow.below {x y : World} {p : Option Addr} {n : Nat} {z : Nat → Bool} (h : BlRow x p n z) (hb : Below x.heap.size x y) : BlRow y p n z := by
  rcases h with h | ⟨b, off, rfl, hl, hc⟩
  · exact .inl h
  · exact .inr ⟨b, off, rfl, Nat.lt_of_lt_of_le hl hb.size, fun k hk => (World.cell?_of_block (hb.block _ hl)).trans (hc k hk)⟩
theorem Try.cellsBoolc : Try.prog.cellsOf 4 = 1 := by kernel_rfl
theorem bools_open {H : Type} {enc : TypeId × Value → H} {w : World} {fuel : Nat} {v : Value} {x : DataW H × List MemPlace} {a : Option Addr} {len cap : Nat} (hv : v = .slice a len cap)
    (h : DataW.trod enc Try.prog w 0 (fun _ => true) true fuel 62 v.cells.toList = some x) : ∃ z : Nat → Bool, len ≤ 9223372036854775807 ∧ BlRow w a len z := by
  subst hv
  rcases open_slice Try.underlying62 h with ⟨h1, _⟩ | ⟨ad, len', cap', m, n, D, Pl, h1, _, hl, hm, hmm, _, hi⟩
  · simp [Value.cells] at h1
    exact ⟨fun _ => false, by omega, .inl h1.2.1⟩
  · simp [Value.cells] at h1
    obtain ⟨rfl, rfl, rfl⟩ := h1
    unfold maxLen at hm
    have hlm : len ≤ m := by rw [hmm]; simp; omega
    have key : ∀ i, i < len → ∃ b : Bool, w.cell? (ad.add i) = some (.bool b) := by
      intro i hilt
      obtain ⟨cs', hc, ht⟩ := hi i (by omega)
      rw [Try.cellsBoolc] at hc
      obtain ⟨_, hcl, hat⟩ := World.cells?_some hc
      obtain ⟨b, rfl, _⟩ := DataW.trod_bool Try.underlying4 ht
      have a0 := hat 0 (by omega)
      rw [add_add] at a0
      exact ⟨b, by simpa using a0⟩
    by_cases h0 : len = 0
    · exact ⟨fun _ => false, by omega, .inl h0⟩
    · refine ⟨fun i => if h : i < len then Classical.choose (key i h) else false, by omega, ?_⟩
      have k0 := Classical.choose_spec (key 0 (by omega))
      obtain ⟨b, off, spot⟩ := ad
      have hspot : spot = none := by simpa [Addr.add] using World.cell?_spot k0
      subst hspot
      have eA : ∀ j, (⟨b, off, none⟩ : Addr).add j = ⟨b, off + j, none⟩ := fun j => by
        simp only [Addr.add]; split <;> simp_all
      refine .inr ⟨b, off, rfl, World.block_lt_of_cell? _ _ (by simpa [Addr.add] using k0), fun i hil => ?_⟩
      show _ = some (Value.bool (if h : i < len then Classical.choose (key i h) else false))
      rw [dif_pos hil, ← eA]
      exact Classical.choose_spec (key i hil)
end Go.Proofs.Ytcbbhefgdonabaa.Bt
