/- The document's function free: which pages are in no taken run. -/
import Derived.Test.YtgpgclhghljidaaGreatBrD
import Derived.Test.YtgpgclhghljidaaGreatArAt
namespace Go.Proofs.YtgpgclhghljidaaGreat.Bt
open Go Go.RowKit Go.Shelf
set_option linter.unusedVariables false
set_option linter.unusedSimpArgs false
structure FK (B D n : Nat) (qc : Array Value) (f : Nat → Bool) (w x : World) : Prop where
  t : BolAt B n f x
  b : x.heap[D]? = some (.cells qc 33 (0, 0))
  l : Below w.heap.size w x
theorem FK.below {B D n : Nat} {qc : Array Value} {f : Nat → Bool} {w x y : World} (h : FK B D n qc f w x) (hb : Below x.heap.size x y) : FK B D n qc f w y :=
  ⟨h.t.below hb, (hb.block _ (Array.getElem?_eq_some_iff.1 h.b).1).trans h.b, h.l.trans (hb.mono h.l.size)⟩
theorem FK.set {B D n : Nat} {qc : Array Value} {f : Nat → Bool} {w x : World} (h : FK B D n qc f w x) (hB : w.heap.size ≤ B) (hD : D ≠ B) (i : Nat) (hi : i < n) (v : Bool) : FK B D n qc (fun p => if p = i then v else f p) w (x.setCell ⟨B, i, none⟩ (.bool v)) :=
  ⟨h.t.set i hi v, (Below.heap_setCell x ⟨B, i, none⟩ (.bool v) D hD).trans h.b, h.l.setCell (p := ⟨B, i, none⟩) hB (.bool v)⟩
theorem FK.ext {B D n : Nat} {qc : Array Value} {f f' : Nat → Bool} {w x : World} (h : FK B D n qc f w x) (e : ∀ i, i < n → f i = f' i) : FK B D n qc f' w x := ⟨h.t.ext e, h.b, h.l⟩
def FreeP (n : Nat) (L : List (Nat × Nat × Bool)) (w : World) (e : Ending) (w' : World) : Prop :=
  ∃ b, e = .returned (.slice (some ⟨b, 0, none⟩) n n) ∧ BolAt b n (freeF L) w' ∧ w.heap.size ≤ b ∧ Below w.heap.size w w'
set_option maxHeartbeats 4000000 in
set_option maxRecDepth 100000 in
theorem bfree_any (o q r : Int) (n : Nat) (hn : n ≤ 2000) (p : Option Addr) (tc : Nat) (L : List (Nat × Nat × Bool)) (hL : L.length ≤ 2000) (hr : ∀ j, j < L.length → (L.getD j r0).2.1 ≤ 10 ∧ (L.getD j r0).1 + 2 ^ (L.getD j r0).2.1 ≤ n) (w : World) (h : RnAt w p L) :
    Calls Tryz.prog 62 #[bqV o q (n : Int) r (.slice p L.length tc)] w (FreeP n L w) := by
  obtain ⟨m, hm⟩ : ∃ m, L.length = m := ⟨_, rfl⟩
  have HM := Lib.hid hm
  have H := Lib.hid h
  have HR := Lib.hid hr
  have hb0 := (Below.refl w.heap.size w).alloc (Nat.le_refl _) (.cells #[.int .i64 o, .int .i64 q, .int .i64 (n : Int), .int .i64 r, .slice p m tc] 33)
  have hbx := heap_new w (.cells #[.int .i64 o, .int .i64 q, .int .i64 (n : Int), .int .i64 r, .slice p m tc] 33)
  have hmk := run_bools n hn (w.alloc (.cells #[.int .i64 o, .int .i64 q, .int .i64 (n : Int), .int .i64 r, .slice p m tc] 33))
  have HB1 := Lib.hid (hb0.alloc (by simp) (.cells (bC n (fun _ => false)) 4))
  have hsz : (w.alloc (.cells #[.int .i64 o, .int .i64 q, .int .i64 (n : Int), .int .i64 r, .slice p m tc] 33)).heap.size = w.heap.size + 1 := by simp
  rw [hsz] at hmk
  have hnew := heap_new (w.alloc (.cells #[.int .i64 o, .int .i64 q, .int .i64 (n : Int), .int .i64 r, .slice p m tc] 33)) (.cells (bC n (fun _ => false)) 4)
  rw [hsz] at hnew
  have hbox := (((Below.refl (w.alloc (.cells #[.int .i64 o, .int .i64 q, .int .i64 (n : Int), .int .i64 r, .slice p m tc] 33)).heap.size _).alloc (Nat.le_refl _) (.cells (bC n (fun _ => false)) 4)).block w.heap.size (by simp)).trans hbx
  have HF := Lib.hid (show FK (w.heap.size + 1) w.heap.size n #[.int .i64 o, .int .i64 q, .int .i64 (n : Int), .int .i64 r, .slice p m tc] (fun i => decide (i < 0)) w ((w.alloc (.cells #[.int .i64 o, .int .i64 q, .int .i64 (n : Int), .int .i64 r, .slice p m tc] 33)).alloc (.cells (bC n (fun _ => false)) 4)) from ⟨BolAt.ext (f := fun _ => false) hnew (fun i _ => by simp), hbox, HB1.out⟩)
  clear hnew
  rw [hm] at hL ⊢
  clear h hm hr hb0
  go_enter Tryz.func62, Tryz.ntmps62
  go_upto_region 2 with fail
  obtain ⟨y, hy⟩ : ∃ y, (w.alloc (.cells #[.int .i64 o, .int .i64 q, .int .i64 (n : Int), .int .i64 r, .slice p m tc] 33)).alloc (.cells (bC n (fun _ => false)) 4) = y := ⟨_, rfl⟩
  obtain ⟨B, hB⟩ : ∃ B, w.heap.size + 1 = B := ⟨_, rfl⟩
  obtain ⟨D, hD⟩ : ∃ D, w.heap.size = D := ⟨_, rfl⟩
  have HBW : Hid (w.heap.size ≤ B) := Lib.hid (by omega)
  have HDB : Hid (D ≠ B) := Lib.hid (by omega)
  rw [hy, hB] at HF
  rw [hy, hB]
  have HF' : Hid (FK B D n #[.int .i64 o, .int .i64 q, .int .i64 (n : Int), .int .i64 r, .slice p m tc] (fun i => decide (i < 0)) w y) := by rw [← hD]; exact HF
  rw [hD]
  clear hy hB hD hmk hbx hsz hbox HB1 HF
  go_wp2_with fail
  go_loopw [4, 13] (fun _ s13 wr => ∃ j : Nat, j ≤ n ∧ s13 = .int .i64 (j : Int) ∧ Hid (FK B D n #[.int .i64 o, .int .i64 q, .int .i64 (n : Int), .int .i64 r, .slice p m tc] (fun i => decide (i < j)) w wr)) (fun _ s13 _ => n - (intOf s13).toNat)
  case atStart => exact ⟨0, Nat.zero_le _, rfl, HF'⟩
  case round =>
    clear HF'
    obtain ⟨j, hj, rfl, HK⟩ := hrel
    by_cases hlt : j < n
    · have hcell := HK.out.t.cell j hlt
      have hfz := (cell_blk HK.out.t j).2
      have hlt2 : (j : Int) < (n : Int) := by omega
      have HK2 := Lib.hid ((HK.out.set HBW.out HDB.out j hlt true).ext (f' := fun i => decide (i < j + 1)) fun i _ => by
        by_cases e : i = j
        · subst e; simp
        · simp only [e, if_false]; congr 1; exact propext ⟨fun _ => by omega, fun _ => by omega⟩)
      clear HK
      go_wp2_with fail
      go_roundw
      case rel => exact ⟨j + 1, by omega, by go_num, HK2⟩
      case measure => simp [intOf]; omega
    · obtain rfl : j = n := by omega
      have hq := HK.out.b
      have b4 := (cell_blk hq 4).1
      have HKa := Lib.hid (HK.out.ext (f' := freeF (L.take 0)) fun i hi => by rw [decide_eq_true hi, List.take_zero]; rfl)
      clear HK hq
      go_wp2_with fail
      have b4' : Hid True := Lib.hid trivial
      go_loopw [6, 7, 23] (fun _ _ s23 wr => ∃ i : Nat, i ≤ m ∧ s23 = .int .i64 (i : Int) ∧ Hid (FK B D j #[.int .i64 o, .int .i64 q, .int .i64 (j : Int), .int .i64 r, .slice p m tc] (freeF (L.take i)) w wr)) (fun _ _ s23 _ => m - (intOf s23).toNat)
      case atStart => exact ⟨0, Nat.zero_le _, rfl, HKa⟩
      case round =>
        clear HKa b4 b4'
        obtain ⟨i, hi, rfl, HK⟩ := hrel
        by_cases him : i < m
        · have him2 : (i : Int) < (m : Int) := by omega
          have hx := H.out.below HK.out.l
          rcases hx with e | ⟨gb, rfl, hg, hc⟩
          · have := HM.out; rw [e] at this; simp at this; omega
          have hil : i < L.length := by rw [HM.out]; exact him
          obtain ⟨c0, c1, c2⟩ := hc i hil
          have hri := HR.out i hil
          obtain ⟨y, hy⟩ : ∃ y, L.getD i r0 = y := ⟨_, rfl⟩
          have HY := Lib.hid hy
          rw [hy] at c0 c1 c2 hri
          obtain ⟨y1, y2, y3⟩ := y
          simp only at c0 c1 c2 hri
          clear hy hc hil
          obtain ⟨ho, hfit⟩ := hri
          have HPG := Lib.hid (fun w => bpages_any y2 ho w)
          obtain ⟨P, hP⟩ : ∃ P, 2 ^ y2 = P := ⟨_, rfl⟩
          have HP := Lib.hid hP
          rw [hP] at hfit HPG
          have HT := Lib.hid (heap_new wr (.cells #[.int .i64 (y1 : Int), .int .i64 (y2 : Int), .bool y3] 51))
          have HK0 := Lib.hid ((HK.out.below ((Below.refl _ _).alloc (Nat.le_refl _) (.cells #[.int .i64 (y1 : Int), .int .i64 (y2 : Int), .bool y3] 51))).ext (f' := fun p => freeF (L.take i) p && !inR (y1, y2, y3) 0 p) fun p _ => by
            have : inR (y1, y2, y3) 0 p = false := by unfold inR; rw [decide_eq_false (by simp)]
            rw [this]; simp)
          have HTB : Hid (wr.heap.size ≠ B) := Lib.hid (by
            have := (Array.getElem?_eq_some_iff.1 HK.out.t).1; omega)
          clear hP HK
          go_upto_region 10 with fail
          obtain ⟨z, hz⟩ : ∃ z, wr.alloc (.cells #[.int .i64 (y1 : Int), .int .i64 (y2 : Int), .bool y3] 51) = z := ⟨_, rfl⟩
          obtain ⟨T, hT⟩ : ∃ T, wr.heap.size = T := ⟨_, rfl⟩
          rw [hz] at HT HK0 ⊢
          rw [hT] at HT HTB ⊢
          clear hz hT c0 c1 c2 hg
          go_wp2_with fail
          go_loopw [7] (fun s7 wx => ∃ k : Nat, k ≤ P ∧ s7 = .int .i64 (k : Int) ∧ Hid (wx.heap[T]? = some (.cells #[.int .i64 (y1 : Int), .int .i64 (y2 : Int), .bool y3] 51 (0, 0))) ∧ Hid (FK B D j #[.int .i64 o, .int .i64 q, .int .i64 (j : Int), .int .i64 r, .slice (some ⟨gb, 0, none⟩) m tc] (fun p => freeF (L.take i) p && !inR (y1, y2, y3) k p) w wx)) (fun s7 _ => P - (intOf s7).toNat)
          case atStart => exact ⟨0, Nat.zero_le _, rfl, HT, HK0⟩
          case round =>
            clear HT HK0
            obtain ⟨k, hk, rfl, HT, HK⟩ := hrel
            have ht := HT.out
            have t0 := (cell_blk ht 0).1
            have t1 := (cell_blk ht 1).1
            simp at t0 t1
            clear ht
            go_wp2_with fail
            refine (HPG.out _).mono ?_
            rintro e w' ⟨rfl, rfl⟩
            by_cases hkP : k < P
            · have hkP2 : (k : Int) < (P : Int) := by omega
              obtain ⟨x, hx⟩ : ∃ x, y1 + k = x := ⟨_, rfl⟩
              have hq : (y1 : Int) + (k : Int) = (x : Int) := by omega
              have hxj : x < j := by omega
              have hxj2 : (x : Int) < (j : Int) := by omega
              have hcell := HK.out.t.cell x hxj
              have hfz := (cell_blk HK.out.t x).2
              have HK2 := Lib.hid ((HK.out.set HBW.out HDB.out x hxj false).ext (f' := fun p => freeF (L.take i) p && !inR (y1, y2, y3) (k + 1) p) fun p _ => by
                rw [← hx]; exact inR_step (y1, y2, y3) k p (freeF (L.take i) p))
              have HT2 := Lib.hid ((Below.heap_setCell wr ⟨B, x, none⟩ (.bool false) T HTB.out).trans HT.out)
              clear HK HT hx t1
              go_wp2_with fail
              go_roundw
              case rel => exact ⟨k + 1, by omega, by go_num, HT2, HK2⟩
              case measure => simp [intOf]; omega
            · obtain rfl : k = P := by omega
              have HK2 := Lib.hid (HK.out.ext (f' := freeF (L.take (i + 1))) fun p _ => by
                rw [take_snoc (by rw [HM.out]; exact him), HY.out, freeF_snoc, HP.out])
              clear HK HT t0 t1
              go_wp2_with fail
              go_roundw
              case rel => exact ⟨i + 1, by omega, by go_num, HK2⟩
              case measure => simp [intOf]; omega
        · obtain rfl : i = m := by omega
          have HKF := Lib.hid (HK.out.ext (f' := freeF L) fun p _ => by rw [← HM.out, List.take_length])
          clear HK
          go_wp2_with fail
          go_ret
          exact ⟨B, rfl, HKF.out.t, HBW.out, HKF.out.l⟩
end Go.Proofs.YtgpgclhghljidaaGreat.Bt
