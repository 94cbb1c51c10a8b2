/- The document's functions on a buddy: all, free. -/
import Derived.Test.YtfemgekhpcgliaaGreatBrA
namespace Go.Proofs.YtfemgekhpcgliaaGreat.Bt
open Go Go.RowKit Go.Shelf
set_option linter.unusedVariables false
set_option linter.unusedSimpArgs false
/-- a row of bools in a block of its own -/
def bC (n : Nat) (f : Nat → Bool) : Array Value := ((List.range n).map fun i => Value.bool (f i)).toArray
theorem bC_size (n : Nat) (f : Nat → Bool) : (bC n f).size = n := by simp [bC]
theorem bC_at (n : Nat) (f : Nat → Bool) (i : Nat) (hi : i < n) : (bC n f)[i]? = some (.bool (f i)) := by simp [bC, hi]
def BolAt (b n : Nat) (f : Nat → Bool) (w : World) : Prop := w.heap[b]? = some (.cells (bC n f) 4 (0, 0))
theorem BolAt.below {b n : Nat} {f : Nat → Bool} {w w' : World} (h : BolAt b n f w) (hb : Below w.heap.size w w') : BolAt b n f w' := (hb.block _ (Array.getElem?_eq_some_iff.1 h).1).trans h
theorem BolAt.cell {b n : Nat} {f : Nat → Bool} {w : World} (h : BolAt b n f w) (i : Nat) (hi : i < n) : w.cell? ⟨b, i, none⟩ = some (.bool (f i)) := ((cell_blk h i).1).trans (bC_at n f i hi)
def allB (f : Nat → Bool) (a c : Nat) : Bool := (List.range c).all fun j => f (a + j)
theorem allB_true {f : Nat → Bool} {a c : Nat} (h : ∀ j, j < c → f (a + j) = true) : allB f a c = true := by
  unfold allB; rw [List.all_eq_true]; intro j hj; exact h j (List.mem_range.1 hj)
theorem allB_false {f : Nat → Bool} {a c j : Nat} (h : j < c) (e : f (a + j) = false) : allB f a c = false := by
  unfold allB; rw [List.all_eq_false]; exact ⟨j, List.mem_range.2 h, by rw [e]; decide⟩
set_option maxRecDepth 100000 in
theorem ball_any (b n : Nat) (hn : n ≤ 2000) (f : Nat → Bool) (a c : Nat) (ha : a ≤ 2000) (hc : c ≤ 2000) (w : World) (h : BolAt b n f w) :
    Calls Tryz.prog 64 #[.slice (some ⟨b, 0, none⟩) n n, .int .i64 (a : Int), .int .i64 (c : Int)] w fun e w' => e = .returned (.bool (decide (a + c ≤ n) && allB f a c)) ∧ w = w' := by
  by_cases hle : a + c ≤ n
  · have hle' : (a : Int) + c ≤ n := by omega
    have HL : Hid (decide (a + c ≤ n) = true) := Lib.hid (by simpa using hle)
    have H := Lib.hid h
    clear h
    go_enter Tryz.func64, Tryz.ntmps64
    go_wp2_with fail
    go_loop [7] (fun k => ∃ j : Nat, j ≤ c ∧ k = .int .i64 ((a : Int) + j) ∧ Hid (∀ i, i < j → f (a + i) = true)) (fun k => a + c - (intOf k).toNat)
    case atStart => exact ⟨0, Nat.zero_le _, by simp, Lib.hid fun i hi => by omega⟩
    case round =>
      obtain ⟨j, hj, rfl, HF⟩ := hrel
      by_cases hlt : j < c
      · have hcell := H.out.cell (a + j) (by omega)
        have hlt2 : (a : Int) + j < (n : Int) := by omega
        have hlt3 : (a : Int) + j < (a : Int) + c := by omega
        have ht : ((a : Int) + j).toNat = a + j := by omega
        obtain ⟨v, hv⟩ : ∃ v, f (a + j) = v := ⟨_, rfl⟩
        rw [hv] at hcell
        have HV := Lib.hid hv
        clear hv
        cases v with
        | true =>
          go_wp2_with fail
          go_round
          case rel => exact ⟨j + 1, by omega, by go_num, Lib.hid fun i hi => by
            by_cases q : i < j
            · exact HF.out i q
            · have : i = j := by omega
              subst this
              exact HV.out⟩
          case measure => simp [intOf]; omega
        | false =>
          go_wp2_with fail
          go_ret
          exact ⟨by rw [allB_false hlt HV.out]; rfl, rfl⟩
      · have e : j = c := by omega
        subst e
        go_wp2_with fail
        go_ret
        exact ⟨by rw [allB_true HF.out]; rfl, rfl⟩
  · have hle' : (n : Int) < (a : Int) + c := by omega
    have HL : Hid (decide (a + c ≤ n) = false) := Lib.hid (by simpa using hle)
    clear h
    go_enter Tryz.func64, Tryz.ntmps64
    go_wp2_with fail
    go_ret
    exact ⟨by rw [HL.out]; rfl, rfl⟩
end Go.Proofs.YtfemgekhpcgliaaGreat.Bt
