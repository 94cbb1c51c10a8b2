/- Rows of bools in memory, as the document's sets are. -/
import Derived.Test.YtoineackmpafdaaBitsLay
import Derived.Test.YtoineackmpafdaaBitsDone
import Derived.Test.YtoineackmpafdaaBitsVar
namespace Go.Proofs.Ytoineackmpafdaa.Bt
open Go Go.RowKit Go.Shelf
set_option linter.unusedVariables false
set_option linter.unusedSimpArgs false
/-- a row of bools in a block of its own -/
def bC (n : Nat) (f : Nat → Bool) : Array Value := ((List.range n).map fun i => Value.bool (f i)).toArray
theorem bC_size (n : Nat) (f : Nat → Bool) : (bC n f).size = n := by simp [bC]
theorem bC_at (n : Nat) (f : Nat → Bool) (i : Nat) (hi : i < n) : (bC n f)[i]? = some (.bool (f i)) := by simp [bC, hi]
def BolAt (b n : Nat) (f : Nat → Bool) (w : World) : Prop := w.heap[b]? = some (.cells (bC n f) 4 (0, 0))
theorem BolAt.below {b n : Nat} {f : Nat → Bool} {w w' : World} (h : BolAt b n f w) (hb : Below w.heap.size w w') : BolAt b n f w' := (hb.block _ (Array.getElem?_eq_some_iff.1 h).1).trans h
theorem BolAt.cell {b n : Nat} {f : Nat → Bool} {w : World} (h : BolAt b n f w) (i : Nat) (hi : i < n) : w.cell? ⟨b, i, none⟩ = some (.bool (f i)) := ((cell_blk h i).1).trans (bC_at n f i hi)
theorem BolAt.lt {b n : Nat} {f : Nat → Bool} {w : World} (h : BolAt b n f w) : b < w.heap.size := (Array.getElem?_eq_some_iff.1 h).1
theorem Try.infoBl : (Try.prog.info? 4).map (fun i => (i.zero, i.size, i.bytes)) = some (some (.bool false), 1, 1) := by kernel_rfl
theorem made_bools (n : Nat) : madeCells (Value.bool false).cells (n * 1) = bC n (fun _ => false) := by
  apply Array.ext_getElem?
  intro i
  by_cases hi : i < n
  · rw [bC_at _ _ _ hi]
    simp [madeCells, hi, Value.cells, Nat.mod_one]
  · rw [Array.getElem?_eq_none (by rw [size_madeCells]; omega), Array.getElem?_eq_none (by rw [bC_size]; omega)]
theorem run_bools (n : Nat) (hn : n ≤ 1048576) (w : World) :
    (Instr.makeSlice 110 (.int .i64 (n : Int)) (.int .i64 (n : Int))).run Try.prog w = .ok (.slice (some ⟨w.heap.size, 0, none⟩) n n) (w.alloc (.cells (bC n (fun _ => false)) 4)) := by
  obtain ⟨i0, hi, hz0, hz1, hz2⟩ := info_parts Try.infoBl
  have h := run_make (P := Try.prog) w 110 4 i0 (.bool false) Try.underlying110 hi hz0 .i64 .i64 (n : Int) n (by omega) (Int.le_refl _) (by rw [hz2]; omega) (by omega)
  rw [Int.toNat_natCast, hz1, made_bools] at h
  exact h
theorem BolAt.ext {b n : Nat} {f f' : Nat → Bool} {w : World} (h : BolAt b n f w) (e : ∀ i, i < n → f i = f' i) : BolAt b n f' w := by
  have : bC n f = bC n f' := by
    unfold bC
    congr 1
    exact List.map_congr_left fun i hi => by rw [e i (List.mem_range.1 hi)]
  unfold BolAt
  rw [← this]; exact h
theorem bol_put {x : World} {b o : Nat} {c : Array Value} {T : TypeId} {fr : Nat × Nat} (h : x.heap[b]? = some (.cells c T fr)) (v : Value) : (x.setCell ⟨b, o, none⟩ v).heap[b]? = some (.cells (c.setIfInBounds o v) T fr) := by
  simp [World.setCell, Array.getElem?_modify, h]
theorem bol_new (x : World) (o : Obj) : (x.alloc o).heap[x.heap.size]? = some o := by
  show (x.heap.push o)[x.heap.size]? = _
  simp
theorem BolAt.set {b n : Nat} {f : Nat → Bool} {w : World} (h : BolAt b n f w) (i : Nat) (hi : i < n) (v : Bool) : BolAt b n (fun p => if p = i then v else f p) (w.setCell ⟨b, i, none⟩ (.bool v)) := by
  unfold BolAt
  have e : (bC n f).setIfInBounds i (.bool v) = bC n (fun p => if p = i then v else f p) := by
    apply Array.ext_getElem?
    intro j
    by_cases hj : j < n
    · rw [bC_at _ _ _ hj, Array.getElem?_setIfInBounds]
      by_cases c : i = j
      · subst c; rw [if_pos rfl, if_pos (by rw [bC_size]; exact hi), if_pos rfl]
      · rw [if_neg c, bC_at _ _ _ hj, if_neg (fun q => c q.symm)]
    · rw [Array.getElem?_eq_none (by simp [bC_size]; omega), Array.getElem?_eq_none (by rw [bC_size]; omega)]
  rw [← e]
  exact bol_put h _
theorem BolAt.keep {b n B : Nat} {f : Nat → Bool} {w : World} (h : BolAt b n f w) (hne : b ≠ B) (o : Nat) (v : Value) : BolAt b n f (w.setCell ⟨B, o, none⟩ v) := (Below.heap_setCell _ ⟨B, o, none⟩ _ _ hne).trans h
set_option maxRecDepth 100000 in
theorem pnew_any (x : Int) (w : World) : Calls Try.prog 64 #[.int .i64 x] w fun e w' => e = .returned (.slice (some ⟨w.heap.size, 0, none⟩) (lenN x) (lenN x)) ∧ BolAt w.heap.size (lenN x) (fun _ => false) w' ∧ Below w.heap.size w w' := by
  have hl := lenN_le x
  obtain ⟨n, hn⟩ : ∃ n, lenN x = n := ⟨_, rfl⟩
  have hmm : (min (max x 0) 1048576) = (n : Int) := by rw [← hn]; unfold lenN; omega
  rw [hn] at hl ⊢
  have HN := Lib.hid hmm
  have HMK := Lib.hid (run_bools n hl w)
  have HB : Hid (BolAt w.heap.size n (fun _ => false) (w.alloc (.cells (bC n (fun _ => false)) 4)) ∧ Below w.heap.size w (w.alloc (.cells (bC n (fun _ => false)) 4))) := Lib.hid ⟨bol_new _ _, (Below.refl _ _).alloc (Nat.le_refl _) _⟩
  clear hn hmm
  by_cases h1 : x < 0
  · have h0 : n = 0 := by have := HN.out; omega
    subst h0
    have hmk : (Instr.makeSlice 110 (.int .i64 0) (.int .i64 0)).run Try.prog w = _ := HMK.out
    go_enter Try.func64, Try.ntmps64
    go_wp2_with fail
    go_ret
    exact ⟨rfl, HB.out⟩
  · by_cases h2 : 1048576 < x
    · have h0 : n = 1048576 := by have := HN.out; omega
      subst h0
      have hmk : (Instr.makeSlice 110 (.int .i64 1048576) (.int .i64 1048576)).run Try.prog w = _ := HMK.out
      go_enter Try.func64, Try.ntmps64
      go_wp2_with fail
      go_ret
      exact ⟨rfl, HB.out⟩
    · have h0 : x = (n : Int) := by have := HN.out; omega
      subst h0
      have hmk := HMK.out
      go_enter Try.func64, Try.ntmps64
      go_wp2_with fail
      go_ret
      exact ⟨rfl, HB.out⟩
end Go.Proofs.Ytoineackmpafdaa.Bt
