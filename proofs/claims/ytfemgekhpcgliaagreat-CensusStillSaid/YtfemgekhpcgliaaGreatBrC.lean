/- The document's functions on a buddy: Order. -/
import Derived.Test.YtfemgekhpcgliaaGreatBrB
namespace Go.Proofs.YtfemgekhpcgliaaGreat.Bt
open Go Go.RowKit Go.Shelf
set_option linter.unusedVariables false
set_option linter.unusedSimpArgs false
/-- a row of runs as the document has them -/
def r0 : Nat × Nat × Bool := (0, 0, false)
def RnAt (w : World) (p : Option Addr) (L : List (Nat × Nat × Bool)) : Prop :=
  L = [] ∨ ∃ g, p = some ⟨g, 0, none⟩ ∧ g < w.heap.size ∧ ∀ j, j < L.length →
    w.cell? ⟨g, j * 3, none⟩ = some (.int .i64 ((L.getD j r0).1 : Int)) ∧ w.cell? ⟨g, j * 3 + 1, none⟩ = some (.int .i64 ((L.getD j r0).2.1 : Int)) ∧ w.cell? ⟨g, j * 3 + 2, none⟩ = some (.bool (L.getD j r0).2.2)
theorem RnAt.below {w w' : World} {p : Option Addr} {L : List (Nat × Nat × Bool)} (h : RnAt w p L) (hb : Below w.heap.size w w') : RnAt w' p L := by
  rcases h with h | ⟨g, e, hg, hc⟩
  · exact .inl h
  · exact .inr ⟨g, e, Nat.lt_of_lt_of_le hg hb.size, fun j hj => ⟨(hb.cell (p := ⟨g, j * 3, none⟩) hg).trans (hc j hj).1, (hb.cell (p := ⟨g, j * 3 + 1, none⟩) hg).trans (hc j hj).2.1, (hb.cell (p := ⟨g, j * 3 + 2, none⟩) hg).trans (hc j hj).2.2⟩⟩
def ordV (L : List (Nat × Nat × Bool)) (a : Int) : Value := match L.find? fun y => decide ((y.1 : Int) = a) with
  | some y => .tuple #[.int .i64 (y.2.1 : Int), .int .i64 0]
  | none => .tuple #[.int .i64 0, .int .i64 8]
theorem ord_hit {L : List (Nat × Nat × Bool)} {a : Int} {j : Nat} (hj : j < L.length) (hn : ∀ i, i < j → ((L.getD i r0).1 : Int) ≠ a) (e : ((L.getD j r0).1 : Int) = a) : ordV L a = .tuple #[.int .i64 ((L.getD j r0).2.1 : Int), .int .i64 0] := by
  unfold ordV
  have : L.find? (fun y => decide ((y.1 : Int) = a)) = some (L.getD j r0) := by
    rw [List.find?_eq_some_iff_getElem]
    refine ⟨by simpa using e, j, hj, by simp [List.getD_eq_getElem?_getD, hj], fun i hi => ?_⟩
    have := hn i hi
    rw [List.getD_eq_getElem?_getD, List.getElem?_eq_getElem (by omega)] at this
    simpa using this
  rw [this]
theorem ord_none {L : List (Nat × Nat × Bool)} {a : Int} (hn : ∀ i, i < L.length → ((L.getD i r0).1 : Int) ≠ a) : ordV L a = .tuple #[.int .i64 0, .int .i64 8] := by
  unfold ordV
  have : L.find? (fun y => decide ((y.1 : Int) = a)) = none := by
    rw [List.find?_eq_none]
    intro y hy
    obtain ⟨i, hi, e⟩ := List.mem_iff_getElem.1 hy
    have := hn i hi
    rw [List.getD_eq_getElem?_getD, List.getElem?_eq_getElem hi, e] at this
    simpa using this
  rw [this]
set_option maxHeartbeats 2000000 in
set_option maxRecDepth 100000 in
theorem bord_any (o q g r : Int) (p : Option Addr) (tc : Nat) (L : List (Nat × Nat × Bool)) (hL : L.length ≤ 2000) (a : Int) (w : World) (h : RnAt w p L) :
    Calls Tryz.prog 53 #[bqV o q g r (.slice p L.length tc), .int .i64 a] w fun e w' => e = .returned (ordV L a) ∧ Below w.heap.size w w' := by
  obtain ⟨n, hn⟩ : ∃ n, L.length = n := ⟨_, rfl⟩
  have HN := Lib.hid hn
  have H := Lib.hid h
  have HB0 := Lib.hid ((Below.refl w.heap.size w).alloc (Nat.le_refl _) (.cells #[.int .i64 o, .int .i64 q, .int .i64 g, .int .i64 r, .slice p n tc] 33))
  rw [hn] at hL ⊢
  clear h hn
  go_enter Tryz.func53, Tryz.ntmps53
  go_wp2_with fail
  go_loopw [11] (fun s wr => ∃ j : Nat, j ≤ n ∧ s = .int .i64 (j : Int) ∧ Hid (∀ i, i < j → ((L.getD i r0).1 : Int) ≠ a) ∧ Hid (Below w.heap.size w wr)) (fun s _ => n - (intOf s).toNat)
  case atStart => exact ⟨0, Nat.zero_le _, rfl, Lib.hid fun i hi => by omega, HB0⟩
  case round =>
    obtain ⟨j, hj, rfl, HNO, HB⟩ := hrel
    by_cases hjn : j < n
    · have hx := H.out.below HB.out
      rcases hx with e | ⟨gb, rfl, hg, hc⟩
      · have := HN.out; rw [e] at this; simp at this; omega
      obtain ⟨c0, c1, c2⟩ := hc j (by rw [HN.out]; exact hjn)
      obtain ⟨y, hy⟩ : ∃ y, L.getD j r0 = y := ⟨_, rfl⟩
      obtain ⟨y1, y2, y3⟩ := y
      have HY := Lib.hid hy
      rw [hy] at c0 c1 c2
      simp only at c0 c1 c2
      have HB2 := Lib.hid (HB.out.alloc HB.out.size (.cells #[.int .i64 (y1 : Int), .int .i64 (y2 : Int), .bool y3] 51))
      clear hy hc
      by_cases hya : (y1 : Int) = a
      · have HF : Hid (ordV L a = .tuple #[.int .i64 (y2 : Int), .int .i64 0]) := Lib.hid (by
          rw [ord_hit (by rw [HN.out]; exact hjn) HNO.out (by rw [HY.out]; exact hya), HY.out])
        have d : ((y1 : Int) == a) = true := by simpa using hya
        have d2 : decide ((y1 : Int) = a) = true := by simpa using hya
        clear hya
        go_wp2_with fail
        go_ret2
        exact ⟨by rw [HF.out]; rfl, HB2.out⟩
      · have HN1 : Hid (∀ i, i < j + 1 → ((L.getD i r0).1 : Int) ≠ a) := Lib.hid fun i hi => by
          by_cases e : i = j
          · subst e; rw [HY.out]; exact hya
          · exact HNO.out i (by omega)
        have d : ((y1 : Int) == a) = false := by simpa using hya
        have d2 : decide ((y1 : Int) = a) = false := by simpa using hya
        clear hya
        go_wp2_with fail
        go_roundw
        case rel => exact ⟨j + 1, by omega, by go_num, HN1, HB2⟩
        case measure => simp [intOf]; omega
    · have e : j = n := by omega
      subst e
      have HF : Hid (ordV L a = .tuple #[.int .i64 0, .int .i64 8]) := Lib.hid (ord_none (by rw [HN.out]; exact HNO.out))
      go_wp2_with fail
      go_ret2
      exact ⟨by rw [HF.out]; rfl, HB.out⟩
end Go.Proofs.YtfemgekhpcgliaaGreat.Bt
