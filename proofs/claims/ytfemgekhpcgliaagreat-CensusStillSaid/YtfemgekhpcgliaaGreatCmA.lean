/- Several texts in one: BrE; BrF; BrG; BrI; BrJ; ArNil; VwA; VwB; VwC; VwAny; ArFill. -/
import Derived.Test.YtfemgekhpcgliaaGreatBrD
import Derived.Test.YtfemgekhpcgliaaGreatArAt
import Derived.Test.YtfemgekhpcgliaaGreatArAwake
import Derived.Test.YtfemgekhpcgliaaGreatArCopy
import Derived.Test.YtfemgekhpcgliaaGreatArFull
import Derived.Test.YtfemgekhpcgliaaGreatRoundHeld
/- The document's function free: which pages are in no taken run. -/
namespace Go.Proofs.YtfemgekhpcgliaaGreat.Bt
open Go Go.RowKit Go.Shelf
set_option linter.unusedVariables false
set_option linter.unusedSimpArgs false
structure FK (B D n : Nat) (qc : Array Value) (f : Nat → Bool) (w x : World) : Prop where
  t : BolAt B n f x
  b : x.heap[D]? = some (.cells qc 33 (0, 0))
  l : Below w.heap.size w x
theorem FK.below {B D n : Nat} {qc : Array Value} {f : Nat → Bool} {w x y : World} (h : FK B D n qc f w x) (hb : Below x.heap.size x y) : FK B D n qc f w y :=
  ⟨h.t.below hb, (hb.block _ (Array.getElem?_eq_some_iff.1 h.b).1).trans h.b, h.l.trans (hb.mono h.l.size)⟩
theorem FK.set {B D n : Nat} {qc : Array Value} {f : Nat → Bool} {w x : World} (h : FK B D n qc f w x) (hB : w.heap.size ≤ B) (hD : D ≠ B) (i : Nat) (hi : i < n) (v : Bool) : FK B D n qc (fun p => if p = i then v else f p) w (x.setCell ⟨B, i, none⟩ (.bool v)) :=
  ⟨h.t.set i hi v, (Below.heap_setCell x ⟨B, i, none⟩ (.bool v) D hD).trans h.b, h.l.setCell (p := ⟨B, i, none⟩) hB (.bool v)⟩
theorem FK.ext {B D n : Nat} {qc : Array Value} {f f' : Nat → Bool} {w x : World} (h : FK B D n qc f w x) (e : ∀ i, i < n → f i = f' i) : FK B D n qc f' w x := ⟨h.t.ext e, h.b, h.l⟩
def FreeP (n : Nat) (L : List (Nat × Nat × Bool)) (w : World) (e : Ending) (w' : World) : Prop :=
  ∃ b, e = .returned (.slice (some ⟨b, 0, none⟩) n n) ∧ BolAt b n (freeF L) w' ∧ w.heap.size ≤ b ∧ Below w.heap.size w w'
set_option maxHeartbeats 4000000 in
set_option maxRecDepth 100000 in
theorem bfree_any (o q r : Int) (n : Nat) (hn : n ≤ 2000) (p : Option Addr) (tc : Nat) (L : List (Nat × Nat × Bool)) (hL : L.length ≤ 2000) (hr : ∀ j, j < L.length → (L.getD j r0).2.1 ≤ 10 ∧ (L.getD j r0).1 + 2 ^ (L.getD j r0).2.1 ≤ n) (w : World) (h : RnAt w p L) :
    Calls Tryz.prog 62 #[bqV o q (n : Int) r (.slice p L.length tc)] w (FreeP n L w) := by
  obtain ⟨m, hm⟩ : ∃ m, L.length = m := ⟨_, rfl⟩
  have HM := Lib.hid hm
  have H := Lib.hid h
  have HR := Lib.hid hr
  have hb0 := (Below.refl w.heap.size w).alloc (Nat.le_refl _) (.cells #[.int .i64 o, .int .i64 q, .int .i64 (n : Int), .int .i64 r, .slice p m tc] 33)
  have hbx := heap_new w (.cells #[.int .i64 o, .int .i64 q, .int .i64 (n : Int), .int .i64 r, .slice p m tc] 33)
  have hmk := run_bools n hn (w.alloc (.cells #[.int .i64 o, .int .i64 q, .int .i64 (n : Int), .int .i64 r, .slice p m tc] 33))
  have HB1 := Lib.hid (hb0.alloc (by simp) (.cells (bC n (fun _ => false)) 4))
  have hsz : (w.alloc (.cells #[.int .i64 o, .int .i64 q, .int .i64 (n : Int), .int .i64 r, .slice p m tc] 33)).heap.size = w.heap.size + 1 := by simp
  rw [hsz] at hmk
  have hnew := heap_new (w.alloc (.cells #[.int .i64 o, .int .i64 q, .int .i64 (n : Int), .int .i64 r, .slice p m tc] 33)) (.cells (bC n (fun _ => false)) 4)
  rw [hsz] at hnew
  have hbox := (((Below.refl (w.alloc (.cells #[.int .i64 o, .int .i64 q, .int .i64 (n : Int), .int .i64 r, .slice p m tc] 33)).heap.size _).alloc (Nat.le_refl _) (.cells (bC n (fun _ => false)) 4)).block w.heap.size (by simp)).trans hbx
  have HF := Lib.hid (show FK (w.heap.size + 1) w.heap.size n #[.int .i64 o, .int .i64 q, .int .i64 (n : Int), .int .i64 r, .slice p m tc] (fun i => decide (i < 0)) w ((w.alloc (.cells #[.int .i64 o, .int .i64 q, .int .i64 (n : Int), .int .i64 r, .slice p m tc] 33)).alloc (.cells (bC n (fun _ => false)) 4)) from ⟨BolAt.ext (f := fun _ => false) hnew (fun i _ => by simp), hbox, HB1.out⟩)
  clear hnew
  rw [hm] at hL ⊢
  clear h hm hr hb0
  go_enter Tryz.func62, Tryz.ntmps62
  go_upto_region 2 with fail
  obtain ⟨y, hy⟩ : ∃ y, (w.alloc (.cells #[.int .i64 o, .int .i64 q, .int .i64 (n : Int), .int .i64 r, .slice p m tc] 33)).alloc (.cells (bC n (fun _ => false)) 4) = y := ⟨_, rfl⟩
  obtain ⟨B, hB⟩ : ∃ B, w.heap.size + 1 = B := ⟨_, rfl⟩
  obtain ⟨D, hD⟩ : ∃ D, w.heap.size = D := ⟨_, rfl⟩
  have HBW : Hid (w.heap.size ≤ B) := Lib.hid (by omega)
  have HDB : Hid (D ≠ B) := Lib.hid (by omega)
  rw [hy, hB] at HF
  rw [hy, hB]
  have HF' : Hid (FK B D n #[.int .i64 o, .int .i64 q, .int .i64 (n : Int), .int .i64 r, .slice p m tc] (fun i => decide (i < 0)) w y) := by rw [← hD]; exact HF
  rw [hD]
  clear hy hB hD hmk hbx hsz hbox HB1 HF
  go_wp2_with fail
  go_loopw [4, 13] (fun _ s13 wr => ∃ j : Nat, j ≤ n ∧ s13 = .int .i64 (j : Int) ∧ Hid (FK B D n #[.int .i64 o, .int .i64 q, .int .i64 (n : Int), .int .i64 r, .slice p m tc] (fun i => decide (i < j)) w wr)) (fun _ s13 _ => n - (intOf s13).toNat)
  case atStart => exact ⟨0, Nat.zero_le _, rfl, HF'⟩
  case round =>
    clear HF'
    obtain ⟨j, hj, rfl, HK⟩ := hrel
    by_cases hlt : j < n
    · have hcell := HK.out.t.cell j hlt
      have hfz := (cell_blk HK.out.t j).2
      have hlt2 : (j : Int) < (n : Int) := by omega
      have HK2 := Lib.hid ((HK.out.set HBW.out HDB.out j hlt true).ext (f' := fun i => decide (i < j + 1)) fun i _ => by
        by_cases e : i = j
        · subst e; simp
        · simp only [e, if_false]; congr 1; exact propext ⟨fun _ => by omega, fun _ => by omega⟩)
      clear HK
      go_wp2_with fail
      go_roundw
      case rel => exact ⟨j + 1, by omega, by go_num, HK2⟩
      case measure => simp [intOf]; omega
    · obtain rfl : j = n := by omega
      have hq := HK.out.b
      have b4 := (cell_blk hq 4).1
      have HKa := Lib.hid (HK.out.ext (f' := freeF (L.take 0)) fun i hi => by rw [decide_eq_true hi, List.take_zero]; rfl)
      clear HK hq
      go_wp2_with fail
      have b4' : Hid True := Lib.hid trivial
      go_loopw [6, 7, 23] (fun _ _ s23 wr => ∃ i : Nat, i ≤ m ∧ s23 = .int .i64 (i : Int) ∧ Hid (FK B D j #[.int .i64 o, .int .i64 q, .int .i64 (j : Int), .int .i64 r, .slice p m tc] (freeF (L.take i)) w wr)) (fun _ _ s23 _ => m - (intOf s23).toNat)
      case atStart => exact ⟨0, Nat.zero_le _, rfl, HKa⟩
      case round =>
        clear HKa b4 b4'
        obtain ⟨i, hi, rfl, HK⟩ := hrel
        by_cases him : i < m
        · have him2 : (i : Int) < (m : Int) := by omega
          have hx := H.out.below HK.out.l
          rcases hx with e | ⟨gb, rfl, hg, hc⟩
          · have := HM.out; rw [e] at this; simp at this; omega
          have hil : i < L.length := by rw [HM.out]; exact him
          obtain ⟨c0, c1, c2⟩ := hc i hil
          have hri := HR.out i hil
          obtain ⟨y, hy⟩ : ∃ y, L.getD i r0 = y := ⟨_, rfl⟩
          have HY := Lib.hid hy
          rw [hy] at c0 c1 c2 hri
          obtain ⟨y1, y2, y3⟩ := y
          simp only at c0 c1 c2 hri
          clear hy hc hil
          obtain ⟨ho, hfit⟩ := hri
          have HPG := Lib.hid (fun w => bpages_any y2 ho w)
          obtain ⟨P, hP⟩ : ∃ P, 2 ^ y2 = P := ⟨_, rfl⟩
          have HP := Lib.hid hP
          rw [hP] at hfit HPG
          have HT := Lib.hid (heap_new wr (.cells #[.int .i64 (y1 : Int), .int .i64 (y2 : Int), .bool y3] 51))
          have HK0 := Lib.hid ((HK.out.below ((Below.refl _ _).alloc (Nat.le_refl _) (.cells #[.int .i64 (y1 : Int), .int .i64 (y2 : Int), .bool y3] 51))).ext (f' := fun p => freeF (L.take i) p && !inR (y1, y2, y3) 0 p) fun p _ => by
            have : inR (y1, y2, y3) 0 p = false := by unfold inR; rw [decide_eq_false (by simp)]
            rw [this]; simp)
          have HTB : Hid (wr.heap.size ≠ B) := Lib.hid (by
            have := (Array.getElem?_eq_some_iff.1 HK.out.t).1; omega)
          clear hP HK
          go_upto_region 10 with fail
          obtain ⟨z, hz⟩ : ∃ z, wr.alloc (.cells #[.int .i64 (y1 : Int), .int .i64 (y2 : Int), .bool y3] 51) = z := ⟨_, rfl⟩
          obtain ⟨T, hT⟩ : ∃ T, wr.heap.size = T := ⟨_, rfl⟩
          rw [hz] at HT HK0 ⊢
          rw [hT] at HT HTB ⊢
          clear hz hT c0 c1 c2 hg
          go_wp2_with fail
          go_loopw [7] (fun s7 wx => ∃ k : Nat, k ≤ P ∧ s7 = .int .i64 (k : Int) ∧ Hid (wx.heap[T]? = some (.cells #[.int .i64 (y1 : Int), .int .i64 (y2 : Int), .bool y3] 51 (0, 0))) ∧ Hid (FK B D j #[.int .i64 o, .int .i64 q, .int .i64 (j : Int), .int .i64 r, .slice (some ⟨gb, 0, none⟩) m tc] (fun p => freeF (L.take i) p && !inR (y1, y2, y3) k p) w wx)) (fun s7 _ => P - (intOf s7).toNat)
          case atStart => exact ⟨0, Nat.zero_le _, rfl, HT, HK0⟩
          case round =>
            clear HT HK0
            obtain ⟨k, hk, rfl, HT, HK⟩ := hrel
            have ht := HT.out
            have t0 := (cell_blk ht 0).1
            have t1 := (cell_blk ht 1).1
            simp at t0 t1
            clear ht
            go_wp2_with fail
            refine (HPG.out _).mono ?_
            rintro e w' ⟨rfl, rfl⟩
            by_cases hkP : k < P
            · have hkP2 : (k : Int) < (P : Int) := by omega
              obtain ⟨x, hx⟩ : ∃ x, y1 + k = x := ⟨_, rfl⟩
              have hq : (y1 : Int) + (k : Int) = (x : Int) := by omega
              have hxj : x < j := by omega
              have hxj2 : (x : Int) < (j : Int) := by omega
              have hcell := HK.out.t.cell x hxj
              have hfz := (cell_blk HK.out.t x).2
              have HK2 := Lib.hid ((HK.out.set HBW.out HDB.out x hxj false).ext (f' := fun p => freeF (L.take i) p && !inR (y1, y2, y3) (k + 1) p) fun p _ => by
                rw [← hx]; exact inR_step (y1, y2, y3) k p (freeF (L.take i) p))
              have HT2 := Lib.hid ((Below.heap_setCell wr ⟨B, x, none⟩ (.bool false) T HTB.out).trans HT.out)
              clear HK HT hx t1
              go_wp2_with fail
              go_roundw
              case rel => exact ⟨k + 1, by omega, by go_num, HT2, HK2⟩
              case measure => simp [intOf]; omega
            · obtain rfl : k = P := by omega
              have HK2 := Lib.hid (HK.out.ext (f' := freeF (L.take (i + 1))) fun p _ => by
                rw [take_snoc (by rw [HM.out]; exact him), HY.out, freeF_snoc, HP.out])
              clear HK HT t0 t1
              go_wp2_with fail
              go_roundw
              case rel => exact ⟨i + 1, by omega, by go_num, HK2⟩
              case measure => simp [intOf]; omega
        · obtain rfl : i = m := by omega
          have HKF := Lib.hid (HK.out.ext (f' := freeF L) fun p _ => by rw [← HM.out, List.take_length])
          clear HK
          go_wp2_with fail
          go_ret
          exact ⟨B, rfl, HKF.out.t, HBW.out, HKF.out.l⟩
end Go.Proofs.YtfemgekhpcgliaaGreat.Bt
/- Rows of the document's runs that are grown by append. -/
namespace Go.Proofs.YtfemgekhpcgliaaGreat.Bt
open Go Go.RowKit Go.Shelf
set_option linter.unusedVariables false
set_option linter.unusedSimpArgs false
def rnC (y : Nat × Nat × Bool) : List Value := [.int .i64 (y.1 : Int), .int .i64 (y.2.1 : Int), .bool y.2.2]
def rnL : List (Nat × Nat × Bool) → List Value
  | [] => []
  | y :: l => rnC y ++ rnL l
theorem rnL_append (l l' : List (Nat × Nat × Bool)) : rnL (l ++ l') = rnL l ++ rnL l' := by
  induction l with
  | nil => rfl
  | cons c l ih => show rnC c ++ rnL (l ++ l') = (rnC c ++ rnL l) ++ rnL l'; rw [ih, List.append_assoc]
theorem rnL_get (l : List (Nat × Nat × Bool)) (j : Nat) (h : j < l.length) (k : Nat) (hk : k < 3) : (rnL l)[j * 3 + k]? = (rnC (l.getD j r0))[k]? := by
  induction l generalizing j with
  | nil => simp at h
  | cons c l ih =>
    show (rnC c ++ rnL l)[j * 3 + k]? = _
    rcases j with _ | j
    · rw [List.getElem?_append_left (by simp [rnC]; omega)]; simp
    · rw [List.getElem?_append_right (by simp [rnC]; omega)]
      have e : (j + 1) * 3 + k - (rnC c).length = j * 3 + k := by simp [rnC]; omega
      rw [e, ih j (by simpa using h)]; simp
theorem own_rn {W : World} {base : Nat} {v : Value} {L : List (Nat × Nat × Bool)} (h : W.ownsRow base 51 3 v L.length (rnL L)) : ∃ p cap, v = .slice p L.length cap ∧ RnAt W p L := by
  rcases h.2 with ⟨rfl, h0⟩ | ⟨g, cap, cur, rfl, _, hg, hnc, _, hcs, htk⟩
  · exact ⟨none, 0, by rw [h0], .inl (List.eq_nil_of_length_eq_zero h0)⟩
  · refine ⟨_, cap, rfl, .inr ⟨g, rfl, (Array.getElem?_eq_some_iff.1 hg).1, fun j hj => ?_⟩⟩
    have key : ∀ k, k < 3 → W.cell? ⟨g, j * 3 + k, none⟩ = (rnC (L.getD j r0))[k]? := fun k hk => by
      rw [(cell_blk hg _).1, ← rnL_get L j hj k hk, ← htk, List.getElem?_take, if_pos (by omega)]; simp
    have k0 := key 0 (by omega); have k1 := key 1 (by omega); have k2 := key 2 (by omega)
    exact ⟨by simpa [rnC] using k0, by simpa [rnC] using k1, by simpa [rnC] using k2⟩
theorem rn_grow {W w1 w : World} {base n k : Nat} {e : TypeId} {v : Value} {xs : List Value} (hrow : W.ownsRow base e k v n xs) (hgrow : W.grownBy w1 v.ownBlock) (hs : base ≤ W.heap.size) (hb : Below base w W) : Below base w w1 :=
  hb.grown hgrow (by omega) fun j ej => by
    rcases hrow.2 with ⟨rfl, _⟩ | ⟨g, cap, cur, rfl, h, _⟩
    · simp [Value.ownBlock] at ej
    · obtain rfl : g = j := by simpa [Value.ownBlock] using ej
      exact h
theorem Tryz.infoRn : (Tryz.prog.info? 51).map (fun i => (i.zero, i.size, i.bytes)) = some (some (.agg #[.int .i64 0, .int .i64 0, .bool false]), 3, 24) := by kernel_rfl
theorem rn_new {w : World} (y : Nat × Nat × Bool) (T : TypeId) {g : Nat} (hg : w.heap.size = g) : ∀ j u, (rnC y)[j]? = some u → (w.alloc (.cells #[.int .i64 (y.1 : Int), .int .i64 (y.2.1 : Int), .bool y.2.2] T)).cell? ((⟨g, 0, none⟩ : Addr).add j) = some u := fun j u h => by
  subst hg
  have e : (⟨w.heap.size, 0, none⟩ : Addr).add j = ⟨w.heap.size, j, none⟩ := by simp only [Addr.add]; split <;> simp_all
  rw [e, (cell_blk (heap_new w _) _).1, ← h]
  unfold rnC
  simp
/-- those that don't begin at a place -/
def wr8 (L : List (Nat × Nat × Bool)) (a : Int) : List (Nat × Nat × Bool) := L.filter fun y => decide ((y.1 : Int) ≠ a)
theorem wr8_len (L : List (Nat × Nat × Bool)) (a : Int) : (wr8 L a).length ≤ L.length := List.length_filter_le _ _
theorem wr8_next {L : List (Nat × Nat × Bool)} {a : Int} {j : Nat} (h : j < L.length) : wr8 (L.take (j + 1)) a = if ((L.getD j r0).1 : Int) = a then wr8 (L.take j) a else wr8 (L.take j) a ++ [L.getD j r0] := by
  rw [take_snoc h]
  generalize L.getD j r0 = c
  unfold wr8
  rw [List.filter_append]
  by_cases e : (c.1 : Int) = a
  · rw [if_pos e]; simp [e]
  · rw [if_neg e]; simp [e]
end Go.Proofs.YtfemgekhpcgliaaGreat.Bt
/- The document's Free of a buddy. -/
namespace Go.Proofs.YtfemgekhpcgliaaGreat.Bt
open Go Go.RowKit Go.Shelf
set_option linter.unusedVariables false
set_option linter.unusedSimpArgs false
theorem own_rn' {W : World} {base : Nat} {v : Value} {L : List (Nat × Nat × Bool)} (h : W.ownsRow base 51 3 v L.length (rnL L)) : ∃ p cap, v = .slice p L.length cap ∧ RnAt W p L ∧ ∀ g, p = some ⟨g, 0, none⟩ → base ≤ g := by
  obtain ⟨p, cap, rfl, hr⟩ := own_rn h
  refine ⟨p, cap, rfl, hr, fun g hg => ?_⟩
  rcases h.2 with ⟨e, h0⟩ | ⟨g', cap', cur, e, h1, _⟩
  · simp only [Value.slice.injEq] at e; rw [hg] at e; cases e.1
  · simp only [Value.slice.injEq] at e
    rw [hg] at e
    have := e.1
    simp at this
    omega
theorem RnAt.far {w w' : World} {p : Option Addr} {L : List (Nat × Nat × Bool)} (h : RnAt w p L) (hs : w.heap.size ≤ w'.heap.size) (hk : ∀ g, p = some ⟨g, 0, none⟩ → w'.heap[g]? = w.heap[g]?) : RnAt w' p L := by
  rcases h with h | ⟨g, e, hg, hc⟩
  · exact .inl h
  · have h2 : ∀ o, w'.cell? ⟨g, o, none⟩ = w.cell? ⟨g, o, none⟩ := fun o => World.cell?_of_block (w := w) (a := ⟨g, o, none⟩) (hk g e)
    exact .inr ⟨g, e, Nat.lt_of_lt_of_le hg hs, fun j hj => ⟨(h2 _).trans (hc j hj).1, (h2 _).trans (hc j hj).2.1, (h2 _).trans (hc j hj).2.2⟩⟩
/-- five cells of a block set -/
def set5 (x : World) (E : Nat) (v0 v1 v2 v3 v4 : Value) : World := ((((x.setCell ⟨E, 0, none⟩ v0).setCell ⟨E, 1, none⟩ v1).setCell ⟨E, 2, none⟩ v2).setCell ⟨E, 3, none⟩ v3).setCell ⟨E, 4, none⟩ v4
theorem set5_at {x : World} {E : Nat} {T : TypeId} {a b c d e : Value} (h : x.heap[E]? = some (.cells #[a, b, c, d, e] T (0, 0))) (v0 v1 v2 v3 v4 : Value) : (set5 x E v0 v1 v2 v3 v4).heap[E]? = some (.cells #[v0, v1, v2, v3, v4] T (0, 0)) := by
  have := heap_set (o := 4) (heap_set (o := 3) (heap_set (o := 2) (heap_set (o := 1) (heap_set (o := 0) h v0) v1) v2) v3) v4
  simpa [set5] using this
theorem set5_below {x w : World} {E base : Nat} (h : Below base w x) (hE : base ≤ E) (v0 v1 v2 v3 v4 : Value) : Below base w (set5 x E v0 v1 v2 v3 v4) :=
  ((((h.setCell (p := ⟨E, 0, none⟩) hE v0).setCell (p := ⟨E, 1, none⟩) hE v1).setCell (p := ⟨E, 2, none⟩) hE v2).setCell (p := ⟨E, 3, none⟩) hE v3).setCell (p := ⟨E, 4, none⟩) hE v4
theorem set5_far {x : World} {E k : Nat} (h : k ≠ E) (v0 v1 v2 v3 v4 : Value) : (set5 x E v0 v1 v2 v3 v4).heap[k]? = x.heap[k]? :=
  (Below.heap_setCell _ ⟨E, 4, none⟩ _ _ h).trans ((Below.heap_setCell _ ⟨E, 3, none⟩ _ _ h).trans ((Below.heap_setCell _ ⟨E, 2, none⟩ _ _ h).trans ((Below.heap_setCell _ ⟨E, 1, none⟩ _ _ h).trans (Below.heap_setCell _ ⟨E, 0, none⟩ _ _ h))))
/-- a buddy comes back, and an error -/
def BackP (o q g r : Int) (L : List (Nat × Nat × Bool)) (er : Int) (w : World) (e : Ending) (w' : World) : Prop :=
  ∃ p cap, e = .returned (.tuple #[bqV o q g r (.slice p L.length cap), .int .i64 er]) ∧ RnAt w' p L ∧ Below w.heap.size w w'
set_option maxHeartbeats 2000000 in
set_option maxRecDepth 100000 in
theorem bfr_no (o q g r : Int) (p : Option Addr) (tc : Nat) (L : List (Nat × Nat × Bool)) (hL : L.length ≤ 2000) (a : Int) (w : World) (h : RnAt w p L) (ho : ordV L a = .tuple #[.int .i64 0, .int .i64 8]) :
    Calls Tryz.prog 55 #[bqV o q g r (.slice p L.length tc), .int .i64 a] w (BackP o q g r L 8 w) := by
  have HO := Lib.hid fun w (h : RnAt w p L) => bord_any o q g r p tc L hL a w h
  rw [ho] at HO
  have H := Lib.hid h
  obtain ⟨n, hn⟩ : ∃ n, L.length = n := ⟨_, rfl⟩
  have HN := Lib.hid hn
  have hb0 := (((Below.refl w.heap.size w).alloc (Nat.le_refl _) (.cells #[.int .i64 o, .int .i64 q, .int .i64 g, .int .i64 r, .slice p n tc] 33)).alloc (by simp) (.cells #[.int .i64 0, .int .i64 0, .int .i64 0, .int .i64 0, .slice none 0 0] 33))
  have hx := ((heap_new w (.cells #[.int .i64 o, .int .i64 q, .int .i64 g, .int .i64 r, .slice p n tc] 33)))
  have hsz : (w.alloc (.cells #[.int .i64 o, .int .i64 q, .int .i64 g, .int .i64 r, .slice p n tc] 33)).heap.size = w.heap.size + 1 := by simp
  have hx2 := (((Below.refl (w.alloc (.cells #[.int .i64 o, .int .i64 q, .int .i64 g, .int .i64 r, .slice p n tc] 33)).heap.size _).alloc (Nat.le_refl _) (.cells #[.int .i64 0, .int .i64 0, .int .i64 0, .int .i64 0, .slice none 0 0] 33)).block w.heap.size (by simp)).trans hx
  have hy := heap_new (w.alloc (.cells #[.int .i64 o, .int .i64 q, .int .i64 g, .int .i64 r, .slice p n tc] 33)) (.cells #[.int .i64 0, .int .i64 0, .int .i64 0, .int .i64 0, .slice none 0 0] 33)
  rw [hsz] at hy
  have HB := Lib.hid hb0; have HX := Lib.hid hx2; have HY := Lib.hid hy
  rw [hn] at hL HO ⊢
  clear h hn hb0 hx hx2 hy hsz ho
  go_enter Tryz.func55, Tryz.ntmps55
  go_wp2_with fail
  refine (HO.out _ (H.out.below HB.out)).mono ?_
  rintro e w1 ⟨rfl, hb1⟩
  have hx1 := (hb1.block _ (Array.getElem?_eq_some_iff.1 HX.out).1).trans HX.out
  have hy1 := (hb1.block _ (Array.getElem?_eq_some_iff.1 HY.out).1).trans HY.out
  have HBB := Lib.hid (HB.out.trans (hb1.mono HB.out.size))
  obtain ⟨D, hD⟩ : ∃ D, w.heap.size = D := ⟨_, rfl⟩
  obtain ⟨E, hE⟩ : ∃ E, w.heap.size + 1 = E := ⟨_, rfl⟩
  have HDE : Hid (w.heap.size ≤ E ∧ D ≠ E) := Lib.hid (by omega)
  rw [hD] at hx1; rw [hE] at hy1
  rw [hE, hD]
  have d0 := (cell_blk hx1 0).1; have d1 := (cell_blk hx1 1).1; have d2 := (cell_blk hx1 2).1; have d3 := (cell_blk hx1 3).1; have d4 := (cell_blk hx1 4).1
  have e0 := (cell_blk hy1 0); have e1 := (cell_blk hy1 1); have e2 := (cell_blk hy1 2); have e3 := (cell_blk hy1 3); have e4 := (cell_blk hy1 4)
  simp at d0 d1 d2 d3 d4 e0 e1 e2 e3 e4
  obtain ⟨e0, f0⟩ := e0; obtain ⟨e1, f1⟩ := e1; obtain ⟨e2, f2⟩ := e2; obtain ⟨e3, f3⟩ := e3; obtain ⟨e4, f4⟩ := e4
  have HE := Lib.hid hy1
  clear hb1 hD hE hx1 hy1 HX HY HB HO
  go_wp2_with fail
  change bodyPost _ _ _ _ _ (set5 w1 E (.int .i64 o) (.int .i64 q) (.int .i64 g) (.int .i64 r) (.slice p n tc))
  have hz := set5_at HE.out (.int .i64 o) (.int .i64 q) (.int .i64 g) (.int .i64 r) (.slice p n tc)
  have HZB := Lib.hid (set5_below HBB.out HDE.out.1 (.int .i64 o) (.int .i64 q) (.int .i64 g) (.int .i64 r) (.slice p n tc))
  obtain ⟨z, hzz⟩ : ∃ z, set5 w1 E (.int .i64 o) (.int .i64 q) (.int .i64 g) (.int .i64 r) (.slice p n tc) = z := ⟨_, rfl⟩
  rw [hzz] at hz HZB ⊢
  have g0 := (cell_blk hz 0).1; have g1 := (cell_blk hz 1).1; have g2 := (cell_blk hz 2).1; have g3 := (cell_blk hz 3).1; have g4 := (cell_blk hz 4).1
  simp at g0 g1 g2 g3 g4
  exact bodyPost_ret (v := .tuple #[bqV o q g r (.slice p n tc), .int .i64 8]) (by simp [results, Tryz.results55, go_sem, g0, g1, g2, g3, g4]) rfl ⟨p, tc, by rw [HN.out], H.out.below HZB.out, HZB.out⟩
end Go.Proofs.YtfemgekhpcgliaaGreat.Bt
/- The document's Grow of a buddy. -/
namespace Go.Proofs.YtfemgekhpcgliaaGreat.Bt
open Go Go.RowKit Go.Shelf
set_option linter.unusedVariables false
set_option linter.unusedSimpArgs false
/-- the first multiple of P that isn't below g -/
def upN (g P : Nat) : Nat := if g % P = 0 then g else g - g % P + P
theorem upN_is {g P : Nat} (hP : 0 < P) : g ≤ upN g P ∧ upN g P < g + P ∧ upN g P % P = 0 ∧ ∀ j, g ≤ j → j < upN g P → 0 < j % P := by
  have h1 := Nat.mod_lt g hP
  have h2 := Nat.div_add_mod g P
  unfold upN
  by_cases h : g % P = 0
  · rw [if_pos h]; exact ⟨Nat.le_refl _, by omega, h, fun j a b => by omega⟩
  · rw [if_neg h]
    refine ⟨by omega, by omega, ?_, fun j a b => ?_⟩
    · rw [show g - g % P + P = P * (g / P + 1) from by rw [Nat.mul_add, Nat.mul_one]; omega, Nat.mul_mod_right]
    · rcases Nat.eq_zero_or_pos (j % P) with e | e
      · have : j = g - g % P := mul_near (n := P) e (by rw [show g - g % P = P * (g / P) from by omega, Nat.mul_mod_right]) (by omega) (by omega)
        omega
      · exact e
def growQ (pg gr r : Int) (on : Nat) (u : Nat) : Int × Int × Int := if pg < ((u + 2 ^ on : Nat) : Int) then (gr, r, 4) else if comE r ≠ 0 then (gr, comR r, comE r) else (((u + 2 ^ on : Nat) : Int), comR r, 0)
set_option maxHeartbeats 4000000 in
set_option maxRecDepth 100000 in
theorem bgrow_arg (o q g r : Int) (p : Option Addr) (tn tc : Nat) (k : Int) (hk : k < 0 ∨ 10 < k) (w : World) :
    Calls Tryz.prog 57 #[bqV o q g r (.slice p tn tc), .int .i64 k] w fun e w' => e = .returned (.tuple #[bqV o q g r (.slice p tn tc), .int .i64 2]) ∧ Below w.heap.size w w' := by
  have hd : decide (k < 0) = true ∨ (decide (k < 0) = false ∧ decide (10 < k) = true) := by simp; omega
  have hd' : k < 0 ∨ (¬ k < 0 ∧ 10 < k) := by omega
  clear hd hk
  rcases hd' with d1 | ⟨d1, d2⟩
  all_goals
    go_enter Tryz.func57, Tryz.ntmps57
    go_wp2_with fail
    have hn0 := heap_new (w.alloc (.cells #[.int .i64 o, .int .i64 q, .int .i64 g, .int .i64 r, .slice p tn tc] 33)) (.cells #[.int .i64 o, .int .i64 q, .int .i64 g, .int .i64 r, .slice p tn tc] 33)
    have g0 := (cell_blk hn0 0).1; have g1 := (cell_blk hn0 1).1; have g2 := (cell_blk hn0 2).1; have g3 := (cell_blk hn0 3).1; have g4 := (cell_blk hn0 4).1
    simp at g0 g1 g2 g3 g4
    exact bodyPost_ret (v := .tuple #[bqV o q g r (.slice p tn tc), .int .i64 2]) (by simp [results, Tryz.results57, go_sem, g0, g1, g2, g3, g4]) rfl ⟨rfl, ((Below.refl _ _).alloc (Nat.le_refl _) _).alloc (by simp) _⟩
set_option maxHeartbeats 4000000 in
set_option maxRecDepth 100000 in
theorem bgrow_on (o r : Int) (pg g on : Nat) (hr : r ≤ 9223372036854775807) (hpg : pg ≤ 2000) (hg : g ≤ 2000) (hon : on ≤ 10) (p : Option Addr) (tn tc : Nat) (w : World) :
    Calls Tryz.prog 57 #[bqV o (pg : Int) (g : Int) r (.slice p tn tc), .int .i64 (on : Int)] w fun e w' =>
      e = .returned (.tuple #[bqV o (pg : Int) (growQ pg g r on (upN g (2 ^ on))).1 (growQ pg g r on (upN g (2 ^ on))).2.1 (.slice p tn tc), .int .i64 (growQ pg g r on (upN g (2 ^ on))).2.2]) ∧ Below w.heap.size w w' := by
  have HPG := Lib.hid (fun w => bpages_any on hon w)
  have HCM := Lib.hid (fun w => bcommit_any o (pg : Int) (g : Int) r p tn tc hr w)
  have h2 : 2 ^ on ≤ 2 ^ 10 := Nat.pow_le_pow_right (by decide) hon
  have h3 := pow2_pos on
  have HG : ∀ u, Hid (growQ pg g r on u = if (pg : Int) < ((u + 2 ^ on : Nat) : Int) then ((g : Int), r, 4) else if comE r ≠ 0 then ((g : Int), comR r, comE r) else (((u + 2 ^ on : Nat) : Int), comR r, 0)) := fun u => Lib.hid rfl
  obtain ⟨P, hP⟩ : ∃ P, 2 ^ on = P := ⟨_, rfl⟩
  rw [hP] at h2 h3 HPG HG ⊢
  obtain ⟨u1, u2, u3, u4⟩ := upN_is (g := g) h3
  obtain ⟨u, hu⟩ : ∃ u, upN g P = u := ⟨_, rfl⟩
  rw [hu] at u1 u2 u3 u4 ⊢
  have HG' := HG u
  have HU3 := Lib.hid u3; have HU4 := Lib.hid u4
  clear hP hu HG u3 u4
  have o1 : ¬ ((on : Int) < 0) := by omega
  have o2 : ¬ (10 < (on : Int)) := by omega
  have hb0 := (((Below.refl w.heap.size w).alloc (Nat.le_refl _) (.cells #[.int .i64 o, .int .i64 (pg : Int), .int .i64 (g : Int), .int .i64 r, .slice p tn tc] 33)).alloc (by simp) (.cells #[.int .i64 0, .int .i64 0, .int .i64 0, .int .i64 0, .slice none 0 0] 33))
  have hsz : (w.alloc (.cells #[.int .i64 o, .int .i64 (pg : Int), .int .i64 (g : Int), .int .i64 r, .slice p tn tc] 33)).heap.size = w.heap.size + 1 := by simp
  have hx2 := (((Below.refl (w.alloc (.cells #[.int .i64 o, .int .i64 (pg : Int), .int .i64 (g : Int), .int .i64 r, .slice p tn tc] 33)).heap.size _).alloc (Nat.le_refl _) (.cells #[.int .i64 0, .int .i64 0, .int .i64 0, .int .i64 0, .slice none 0 0] 33)).block w.heap.size (by simp)).trans (heap_new w (.cells #[.int .i64 o, .int .i64 (pg : Int), .int .i64 (g : Int), .int .i64 r, .slice p tn tc] 33))
  have hy := heap_new (w.alloc (.cells #[.int .i64 o, .int .i64 (pg : Int), .int .i64 (g : Int), .int .i64 r, .slice p tn tc] 33)) (.cells #[.int .i64 0, .int .i64 0, .int .i64 0, .int .i64 0, .slice none 0 0] 33)
  rw [hsz] at hy
  go_enter Tryz.func57, Tryz.ntmps57
  go_wp2_with fail
  refine (HPG.out _).mono ?_
  rintro e w1 ⟨rfl, rfl⟩
  obtain ⟨y, hyy⟩ : ∃ y, (w.alloc (.cells #[.int .i64 o, .int .i64 (pg : Int), .int .i64 (g : Int), .int .i64 r, .slice p tn tc] 33)).alloc (.cells #[.int .i64 0, .int .i64 0, .int .i64 0, .int .i64 0, .slice none 0 0] 33) = y := ⟨_, rfl⟩
  obtain ⟨E, hE⟩ : ∃ E, w.heap.size + 1 = E := ⟨_, rfl⟩
  obtain ⟨D, hD⟩ : ∃ D, w.heap.size = D := ⟨_, rfl⟩
  have HDE : Hid (w.heap.size ≤ E ∧ D ≠ E ∧ w.heap.size ≤ D) := Lib.hid (by omega)
  rw [hyy] at hb0 hx2 hy ⊢
  rw [hE] at hy ⊢
  have hx3 : y.heap[D]? = some (.cells #[.int .i64 o, .int .i64 (pg : Int), .int .i64 (g : Int), .int .i64 r, .slice p tn tc] 33) := by rw [← hD]; exact hx2
  rw [hD]
  clear hx2
  have HX := Lib.hid hx3; have HY := Lib.hid hy; have HB := Lib.hid hb0
  have d2 := (cell_blk hx3 2).1
  simp at d2
  clear hyy hE hD hsz hb0 hx3 hy HPG
  go_wp2_with fail
  go_loop [7] (fun s => ∃ j : Nat, g ≤ j ∧ j ≤ u ∧ s = .int .i64 (j : Int)) (fun s => u - (intOf s).toNat)
  case atStart => exact ⟨g, Nat.le_refl _, u1, rfl⟩
  case round =>
    obtain ⟨j, hgj, hju, rfl⟩ := hrel
    have hm : Int.tmod (j : Int) (P : Int) = ((j % P : Nat) : Int) := by rw [Int.tmod_eq_emod_of_nonneg (by omega)]; rfl
    have hP0 : ¬ (P : Int) = 0 := by omega
    by_cases hlt : j < u
    · have h4 := HU4.out j hgj hlt
      have h5 : (0 : Int) < ((j % P : Nat) : Int) := by omega
      obtain ⟨M, hM⟩ : ∃ M, j % P = M := ⟨_, rfl⟩
      rw [hM] at hm h5
      clear h4 hM
      go_wp2_with fail
      go_round
      case rel => exact ⟨j + 1, by omega, by omega, by go_num⟩
      case measure => simp [intOf]; omega
    · obtain rfl : j = u := by omega
      have h5 : ¬ (0 : Int) < ((j % P : Nat) : Int) := by rw [HU3.out]; simp
      obtain ⟨M, hM⟩ : ∃ M, j % P = M := ⟨_, rfl⟩
      rw [hM] at hm h5
      clear hM
      have hED := HDE.out.2.1
      have hDE : ¬ E = D := fun q => hED q.symm
      have hjP : ((j + P : Nat) : Int) = (j : Int) + P := by omega
      by_cases hcp : (pg : Int) < (j : Int) + (P : Int)
      · have HQ : Hid (growQ pg g r on j = ((g : Int), r, 4)) := Lib.hid (by rw [HG'.out, hjP, if_pos hcp])
        have hx1 := HX.out; have hy1 := HY.out
        have d0 := (cell_blk hx1 0); have d1 := (cell_blk hx1 1); have d2 := (cell_blk hx1 2); have d3 := (cell_blk hx1 3); have d4 := (cell_blk hx1 4)
        have e0 := (cell_blk hy1 0); have e1 := (cell_blk hy1 1); have e2 := (cell_blk hy1 2); have e3 := (cell_blk hy1 3); have e4 := (cell_blk hy1 4)
        simp at d0 d1 d2 d3 d4 e0 e1 e2 e3 e4
        obtain ⟨d0, k0⟩ := d0; obtain ⟨d1, k1⟩ := d1; obtain ⟨d2, k2⟩ := d2; obtain ⟨d3, k3⟩ := d3; obtain ⟨d4, k4⟩ := d4
        obtain ⟨e0, f0⟩ := e0; obtain ⟨e1, f1⟩ := e1; obtain ⟨e2, f2⟩ := e2; obtain ⟨e3, f3⟩ := e3; obtain ⟨e4, f4⟩ := e4
        clear hx1 hy1 hjP
        go_wp2_with fail
        change bodyPost _ _ _ _ _ (set5 y E (.int .i64 o) (.int .i64 (pg : Int)) (.int .i64 (g : Int)) (.int .i64 r) (.slice p tn tc))
        have hz := set5_at HY.out (.int .i64 o) (.int .i64 (pg : Int)) (.int .i64 (g : Int)) (.int .i64 r) (.slice p tn tc)
        have HZB := Lib.hid (set5_below HB.out HDE.out.1 (.int .i64 o) (.int .i64 (pg : Int)) (.int .i64 (g : Int)) (.int .i64 r) (.slice p tn tc))
        obtain ⟨z, hzz⟩ : ∃ z, set5 y E (.int .i64 o) (.int .i64 (pg : Int)) (.int .i64 (g : Int)) (.int .i64 r) (.slice p tn tc) = z := ⟨_, rfl⟩
        rw [hzz] at hz HZB ⊢
        have g0 := (cell_blk hz 0).1; have g1 := (cell_blk hz 1).1; have g2 := (cell_blk hz 2).1; have g3 := (cell_blk hz 3).1; have g4 := (cell_blk hz 4).1
        simp at g0 g1 g2 g3 g4
        exact bodyPost_ret (v := .tuple #[.agg #[.int .i64 o, .int .i64 (pg : Int), .int .i64 (g : Int), .int .i64 r, .slice p tn tc], .int .i64 4]) (by simp [results, Tryz.results57, go_sem, g0, g1, g2, g3, g4]) rfl ⟨by rw [HQ.out], HZB.out⟩
      · have hx1 := HX.out; have hy1 := HY.out
        have d0 := (cell_blk hx1 0); have d1 := (cell_blk hx1 1); have d2 := (cell_blk hx1 2); have d3 := (cell_blk hx1 3); have d4 := (cell_blk hx1 4)
        have e0 := (cell_blk hy1 0); have e1 := (cell_blk hy1 1); have e2 := (cell_blk hy1 2); have e3 := (cell_blk hy1 3); have e4 := (cell_blk hy1 4)
        simp at d0 d1 d2 d3 d4 e0 e1 e2 e3 e4
        obtain ⟨d0, k0⟩ := d0; obtain ⟨d1, k1⟩ := d1; obtain ⟨d2, k2⟩ := d2; obtain ⟨d3, k3⟩ := d3; obtain ⟨d4, k4⟩ := d4
        obtain ⟨e0, f0⟩ := e0; obtain ⟨e1, f1⟩ := e1; obtain ⟨e2, f2⟩ := e2; obtain ⟨e3, f3⟩ := e3; obtain ⟨e4, f4⟩ := e4
        clear hx1 hy1
        go_wp2_with fail
        refine (HCM.out _).mono ?_
        rintro e w1 ⟨rfl, hb1⟩
        have hx1 := (hb1.block _ (Array.getElem?_eq_some_iff.1 HX.out).1).trans HX.out
        have hy1 := (hb1.block _ (Array.getElem?_eq_some_iff.1 HY.out).1).trans HY.out
        have HBB := Lib.hid (HB.out.trans (hb1.mono HB.out.size))
        have HX1 := Lib.hid hx1; have HY1 := Lib.hid hy1
        clear d0 d1 d2 d3 d4 e0 e1 e2 e3 e4 k0 k1 k2 k3 k4 f0 f1 f2 f3 f4 hb1 HX HY HB HCM
        have d0 := (cell_blk hx1 0); have d1 := (cell_blk hx1 1); have d2 := (cell_blk hx1 2); have d3 := (cell_blk hx1 3); have d4 := (cell_blk hx1 4)
        have e0 := (cell_blk hy1 0); have e1 := (cell_blk hy1 1); have e2 := (cell_blk hy1 2); have e3 := (cell_blk hy1 3); have e4 := (cell_blk hy1 4)
        simp at d0 d1 d2 d3 d4 e0 e1 e2 e3 e4
        obtain ⟨d0, k0⟩ := d0; obtain ⟨d1, k1⟩ := d1; obtain ⟨d2, k2⟩ := d2; obtain ⟨d3, k3⟩ := d3; obtain ⟨d4, k4⟩ := d4
        obtain ⟨e0, f0⟩ := e0; obtain ⟨e1, f1⟩ := e1; obtain ⟨e2, f2⟩ := e2; obtain ⟨e3, f3⟩ := e3; obtain ⟨e4, f4⟩ := e4
        clear hx1 hy1
        have HQ : Hid (growQ pg g r on j = if comE r ≠ 0 then ((g : Int), comR r, comE r) else (((j + P : Nat) : Int), comR r, 0)) := Lib.hid (by rw [HG'.out, hjP, if_neg (show ¬ (pg : Int) < (j : Int) + (P : Int) by omega)])
        have HJP := Lib.hid hjP
        clear hjP HG'
        obtain ⟨C, hC⟩ : ∃ C, comR r = C := ⟨_, rfl⟩
        obtain ⟨er, her⟩ : ∃ er, comE r = er := ⟨_, rfl⟩
        rw [hC, her] at HQ
        rw [hC, her]
        clear hC her
        go_upto_region 10 with fail
        change Code.wp _ _ _ _ (set5 w1 D (.int .i64 o) (.int .i64 (pg : Int)) (.int .i64 (g : Int)) (.int .i64 C) (.slice p tn tc))
        have hxd := set5_at HX1.out (.int .i64 o) (.int .i64 (pg : Int)) (.int .i64 (g : Int)) (.int .i64 C) (.slice p tn tc)
        have hye := (set5_far hDE (.int .i64 o) (.int .i64 (pg : Int)) (.int .i64 (g : Int)) (.int .i64 C) (.slice p tn tc)).trans HY1.out
        have HB2 := Lib.hid (set5_below HBB.out HDE.out.2.2 (.int .i64 o) (.int .i64 (pg : Int)) (.int .i64 (g : Int)) (.int .i64 C) (.slice p tn tc))
        obtain ⟨z1, hz1⟩ : ∃ z1, set5 w1 D (.int .i64 o) (.int .i64 (pg : Int)) (.int .i64 (g : Int)) (.int .i64 C) (.slice p tn tc) = z1 := ⟨_, rfl⟩
        rw [hz1] at hxd hye HB2 ⊢
        have HXD := Lib.hid hxd; have HYE := Lib.hid hye
        clear d0 d1 d2 d3 d4 e0 e1 e2 e3 e4 k0 k1 k2 k3 k4 f0 f1 f2 f3 f4 hz1 HX1 HY1 HBB
        have d0 := (cell_blk hxd 0); have d1 := (cell_blk hxd 1); have d2 := (cell_blk hxd 2); have d3 := (cell_blk hxd 3); have d4 := (cell_blk hxd 4)
        have e0 := (cell_blk hye 0); have e1 := (cell_blk hye 1); have e2 := (cell_blk hye 2); have e3 := (cell_blk hye 3); have e4 := (cell_blk hye 4)
        simp at d0 d1 d2 d3 d4 e0 e1 e2 e3 e4
        obtain ⟨d0, k0⟩ := d0; obtain ⟨d1, k1⟩ := d1; obtain ⟨d2, k2⟩ := d2; obtain ⟨d3, k3⟩ := d3; obtain ⟨d4, k4⟩ := d4
        obtain ⟨e0, f0⟩ := e0; obtain ⟨e1, f1⟩ := e1; obtain ⟨e2, f2⟩ := e2; obtain ⟨e3, f3⟩ := e3; obtain ⟨e4, f4⟩ := e4
        clear hxd hye
        by_cases h0 : er = 0
        · subst h0
          have HQ2 : Hid (growQ pg g r on j = ((j : Int) + (P : Int), C, 0)) := Lib.hid (by rw [HQ.out, if_neg (by simp), HJP.out])
          clear HQ
          go_wp2_with fail
          change bodyPost _ _ _ _ _ (set5 (z1.setCell ⟨D, 2, none⟩ (.int .i64 ((j : Int) + (P : Int)))) E (.int .i64 o) (.int .i64 (pg : Int)) (.int .i64 ((j : Int) + (P : Int))) (.int .i64 C) (.slice p tn tc))
          have hz := set5_at ((Below.heap_setCell z1 ⟨D, 2, none⟩ (.int .i64 ((j : Int) + (P : Int))) E hDE).trans HYE.out) (.int .i64 o) (.int .i64 (pg : Int)) (.int .i64 ((j : Int) + (P : Int))) (.int .i64 C) (.slice p tn tc)
          have HZB := Lib.hid (set5_below (HB2.out.setCell (p := ⟨D, 2, none⟩) HDE.out.2.2 (.int .i64 ((j : Int) + (P : Int)))) HDE.out.1 (.int .i64 o) (.int .i64 (pg : Int)) (.int .i64 ((j : Int) + (P : Int))) (.int .i64 C) (.slice p tn tc))
          obtain ⟨z, hzz⟩ : ∃ z, set5 (z1.setCell ⟨D, 2, none⟩ (.int .i64 ((j : Int) + (P : Int)))) E (.int .i64 o) (.int .i64 (pg : Int)) (.int .i64 ((j : Int) + (P : Int))) (.int .i64 C) (.slice p tn tc) = z := ⟨_, rfl⟩
          rw [hzz] at hz HZB ⊢
          have g0 := (cell_blk hz 0).1; have g1 := (cell_blk hz 1).1; have g2 := (cell_blk hz 2).1; have g3 := (cell_blk hz 3).1; have g4 := (cell_blk hz 4).1
          simp at g0 g1 g2 g3 g4
          exact bodyPost_ret (v := .tuple #[.agg #[.int .i64 o, .int .i64 (pg : Int), .int .i64 ((j : Int) + (P : Int)), .int .i64 C, .slice p tn tc], .int .i64 0]) (by simp [results, Tryz.results57, go_sem, g0, g1, g2, g3, g4]) rfl ⟨by rw [HQ2.out], HZB.out⟩
        · have HQ2 : Hid (growQ pg g r on j = ((g : Int), C, er)) := Lib.hid (by rw [HQ.out, if_pos h0])
          clear HQ
          go_wp2_with fail
          change bodyPost _ _ _ _ _ (set5 z1 E (.int .i64 o) (.int .i64 (pg : Int)) (.int .i64 (g : Int)) (.int .i64 C) (.slice p tn tc))
          have hz := set5_at HYE.out (.int .i64 o) (.int .i64 (pg : Int)) (.int .i64 (g : Int)) (.int .i64 C) (.slice p tn tc)
          have HZB := Lib.hid (set5_below HB2.out HDE.out.1 (.int .i64 o) (.int .i64 (pg : Int)) (.int .i64 (g : Int)) (.int .i64 C) (.slice p tn tc))
          obtain ⟨z, hzz⟩ : ∃ z, set5 z1 E (.int .i64 o) (.int .i64 (pg : Int)) (.int .i64 (g : Int)) (.int .i64 C) (.slice p tn tc) = z := ⟨_, rfl⟩
          rw [hzz] at hz HZB ⊢
          have g0 := (cell_blk hz 0).1; have g1 := (cell_blk hz 1).1; have g2 := (cell_blk hz 2).1; have g3 := (cell_blk hz 3).1; have g4 := (cell_blk hz 4).1
          simp at g0 g1 g2 g3 g4
          exact bodyPost_ret (v := .tuple #[.agg #[.int .i64 o, .int .i64 (pg : Int), .int .i64 (g : Int), .int .i64 C, .slice p tn tc], .int .i64 er]) (by simp [results, Tryz.results57, go_sem, g0, g1, g2, g3, g4]) rfl ⟨by rw [HQ2.out], HZB.out⟩
end Go.Proofs.YtfemgekhpcgliaaGreat.Bt
/- The document's New of a buddy. -/
namespace Go.Proofs.YtfemgekhpcgliaaGreat.Bt
open Go Go.RowKit Go.Shelf
set_option linter.unusedVariables false
set_option linter.unusedSimpArgs false
def newV (n : Nat) (r : Int) : Value := if n < 2 then .tuple #[bqV 0 0 0 0 (.slice none 0 0), .int .i64 3] else if comE r ≠ 0 then .tuple #[bqV 0 0 0 0 (.slice none 0 0), .int .i64 (comE r)] else .tuple #[bqV 1 ((n : Int) - 1) 0 (comR r) (.slice none 0 0), .int .i64 0]
set_option maxHeartbeats 4000000 in
set_option maxRecDepth 100000 in
theorem bnew_any (n : Nat) (hn : n ≤ 80) (r : Int) (hr : r ≤ 9223372036854775807) (w : World) :
    Calls Tryz.prog 12 #[.int .i64 (n : Int), .int .i64 r] w fun e w' => e = .returned (newV n r) ∧ Below w.heap.size w w' := by
  have HO := Lib.hid (fun w => bown_any n hn w)
  have HCM := Lib.hid (fun w => bcommit_any 1 ((n : Int) - 1) 0 r none 0 0 hr w)
  have hb0 := (((Below.refl w.heap.size w).alloc (Nat.le_refl _) (.cells #[.int .i64 0, .int .i64 0, .int .i64 0, .int .i64 0, .slice none 0 0] 33)).alloc (by simp) (.cells #[.int .i64 1, .int .i64 ((n : Int) - 1), .int .i64 0, .int .i64 r, .slice none 0 0] 33))
  have hsz : (w.alloc (.cells #[.int .i64 0, .int .i64 0, .int .i64 0, .int .i64 0, .slice none 0 0] 33)).heap.size = w.heap.size + 1 := by simp
  have hx2 := (((Below.refl (w.alloc (.cells #[.int .i64 0, .int .i64 0, .int .i64 0, .int .i64 0, .slice none 0 0] 33)).heap.size _).alloc (Nat.le_refl _) (.cells #[.int .i64 1, .int .i64 ((n : Int) - 1), .int .i64 0, .int .i64 r, .slice none 0 0] 33)).block w.heap.size (by simp)).trans (heap_new w (.cells #[.int .i64 0, .int .i64 0, .int .i64 0, .int .i64 0, .slice none 0 0] 33))
  have hy := heap_new (w.alloc (.cells #[.int .i64 0, .int .i64 0, .int .i64 0, .int .i64 0, .slice none 0 0] 33)) (.cells #[.int .i64 1, .int .i64 ((n : Int) - 1), .int .i64 0, .int .i64 r, .slice none 0 0] 33)
  rw [hsz] at hy
  go_enter Tryz.func12, Tryz.ntmps12
  go_wp2_with fail
  refine (HO.out _).mono ?_
  rintro e w1 ⟨rfl, rfl⟩
  go_wp2_with fail
  refine (HO.out _).mono ?_
  rintro e w1 ⟨rfl, rfl⟩
  go_upto_region 2 with fail
  obtain ⟨y, hyy⟩ : ∃ y, (w.alloc (.cells #[.int .i64 0, .int .i64 0, .int .i64 0, .int .i64 0, .slice none 0 0] 33)).alloc (.cells #[.int .i64 1, .int .i64 ((n : Int) - 1), .int .i64 0, .int .i64 r, .slice none 0 0] 33) = y := ⟨_, rfl⟩
  obtain ⟨D, hD⟩ : ∃ D, w.heap.size + 1 = D := ⟨_, rfl⟩
  obtain ⟨E, hE⟩ : ∃ E, w.heap.size = E := ⟨_, rfl⟩
  have HDE : Hid (w.heap.size ≤ E ∧ D ≠ E ∧ w.heap.size ≤ D) := Lib.hid (by omega)
  rw [hyy] at hb0 hx2 hy ⊢
  rw [hD] at hy ⊢
  have hx3 : y.heap[E]? = some (.cells #[.int .i64 0, .int .i64 0, .int .i64 0, .int .i64 0, .slice none 0 0] 33) := by rw [← hE]; exact hx2
  rw [hE]
  clear hx2
  have HX := Lib.hid hx3; have HY := Lib.hid hy; have HB := Lib.hid hb0
  have hDE0 : ¬ D = E := HDE.out.2.1
  have hDE : ¬ E = D := fun q => HDE.out.2.1 q.symm
  have d0 := (cell_blk hy 0); have d1 := (cell_blk hy 1); have d2 := (cell_blk hy 2); have d3 := (cell_blk hy 3); have d4 := (cell_blk hy 4)
  have e0 := (cell_blk hx3 0); have e1 := (cell_blk hx3 1); have e2 := (cell_blk hx3 2); have e3 := (cell_blk hx3 3); have e4 := (cell_blk hx3 4)
  simp at d0 d1 d2 d3 d4 e0 e1 e2 e3 e4
  obtain ⟨d0, k0⟩ := d0; obtain ⟨d1, k1⟩ := d1; obtain ⟨d2, k2⟩ := d2; obtain ⟨d3, k3⟩ := d3; obtain ⟨d4, k4⟩ := d4
  obtain ⟨e0, f0⟩ := e0; obtain ⟨e1, f1⟩ := e1; obtain ⟨e2, f2⟩ := e2; obtain ⟨e3, f3⟩ := e3; obtain ⟨e4, f4⟩ := e4
  clear hyy hE hD hsz hb0 hx3 hy HO
  by_cases h2 : n < 2
  · have HV : Hid (newV n r = .tuple #[bqV 0 0 0 0 (.slice none 0 0), .int .i64 3]) := Lib.hid (by unfold newV; rw [if_pos h2])
    have h3 : (n : Int) - 1 < 1 := by omega
    go_wp2_with fail
    change bodyPost _ _ _ _ _ (set5 y E (.int .i64 0) (.int .i64 0) (.int .i64 0) (.int .i64 0) (.slice none 0 0))
    have hz := set5_at HX.out (.int .i64 0) (.int .i64 0) (.int .i64 0) (.int .i64 0) (.slice none 0 0)
    have HZB := Lib.hid (set5_below HB.out HDE.out.1 (.int .i64 0) (.int .i64 0) (.int .i64 0) (.int .i64 0) (.slice none 0 0))
    obtain ⟨z, hzz⟩ : ∃ z, set5 y E (.int .i64 0) (.int .i64 0) (.int .i64 0) (.int .i64 0) (.slice none 0 0) = z := ⟨_, rfl⟩
    rw [hzz] at hz HZB ⊢
    have g0 := (cell_blk hz 0).1; have g1 := (cell_blk hz 1).1; have g2 := (cell_blk hz 2).1; have g3 := (cell_blk hz 3).1; have g4 := (cell_blk hz 4).1
    simp at g0 g1 g2 g3 g4
    exact bodyPost_ret (v := .tuple #[.agg #[.int .i64 0, .int .i64 0, .int .i64 0, .int .i64 0, .slice none 0 0], .int .i64 3]) (by simp [results, Tryz.results12, go_sem, g0, g1, g2, g3, g4]) rfl ⟨by rw [HV.out], HZB.out⟩
  · have h3 : ¬ (n : Int) - 1 < 1 := by omega
    go_wp2_with fail
    refine (HCM.out _).mono ?_
    rintro e w1 ⟨rfl, hb1⟩
    have hx1 := (hb1.block _ (Array.getElem?_eq_some_iff.1 HX.out).1).trans HX.out
    have hy1 := (hb1.block _ (Array.getElem?_eq_some_iff.1 HY.out).1).trans HY.out
    have HBB := Lib.hid (HB.out.trans (hb1.mono HB.out.size))
    have HX1 := Lib.hid hx1; have HY1 := Lib.hid hy1
    clear d0 d1 d2 d3 d4 e0 e1 e2 e3 e4 k0 k1 k2 k3 k4 f0 f1 f2 f3 f4 hb1 HX HY HB HCM
    have d0 := (cell_blk hy1 0); have d1 := (cell_blk hy1 1); have d2 := (cell_blk hy1 2); have d3 := (cell_blk hy1 3); have d4 := (cell_blk hy1 4)
    have e0 := (cell_blk hx1 0); have e1 := (cell_blk hx1 1); have e2 := (cell_blk hx1 2); have e3 := (cell_blk hx1 3); have e4 := (cell_blk hx1 4)
    simp at d0 d1 d2 d3 d4 e0 e1 e2 e3 e4
    obtain ⟨d0, k0⟩ := d0; obtain ⟨d1, k1⟩ := d1; obtain ⟨d2, k2⟩ := d2; obtain ⟨d3, k3⟩ := d3; obtain ⟨d4, k4⟩ := d4
    obtain ⟨e0, f0⟩ := e0; obtain ⟨e1, f1⟩ := e1; obtain ⟨e2, f2⟩ := e2; obtain ⟨e3, f3⟩ := e3; obtain ⟨e4, f4⟩ := e4
    clear hx1 hy1
    have HV : Hid (newV n r = if comE r ≠ 0 then .tuple #[bqV 0 0 0 0 (.slice none 0 0), .int .i64 (comE r)] else .tuple #[bqV 1 ((n : Int) - 1) 0 (comR r) (.slice none 0 0), .int .i64 0]) := Lib.hid (by unfold newV; rw [if_neg h2])
    obtain ⟨C, hC⟩ : ∃ C, comR r = C := ⟨_, rfl⟩
    obtain ⟨er, her⟩ : ∃ er, comE r = er := ⟨_, rfl⟩
    rw [hC, her] at HV
    rw [hC, her]
    clear hC her
    go_upto_region 5 with fail
    change Code.wp _ _ _ _ (set5 w1 D (.int .i64 1) (.int .i64 ((n : Int) - 1)) (.int .i64 0) (.int .i64 C) (.slice none 0 0))
    have hxd := set5_at HY1.out (.int .i64 1) (.int .i64 ((n : Int) - 1)) (.int .i64 0) (.int .i64 C) (.slice none 0 0)
    have hye := (set5_far hDE (.int .i64 1) (.int .i64 ((n : Int) - 1)) (.int .i64 0) (.int .i64 C) (.slice none 0 0)).trans HX1.out
    have HB2 := Lib.hid (set5_below HBB.out HDE.out.2.2 (.int .i64 1) (.int .i64 ((n : Int) - 1)) (.int .i64 0) (.int .i64 C) (.slice none 0 0))
    obtain ⟨z1, hz1⟩ : ∃ z1, set5 w1 D (.int .i64 1) (.int .i64 ((n : Int) - 1)) (.int .i64 0) (.int .i64 C) (.slice none 0 0) = z1 := ⟨_, rfl⟩
    rw [hz1] at hxd hye HB2 ⊢
    have HYE := Lib.hid hye
    clear d0 d1 d2 d3 d4 e0 e1 e2 e3 e4 k0 k1 k2 k3 k4 f0 f1 f2 f3 f4 hz1 HX1 HY1 HBB
    have d0 := (cell_blk hxd 0); have d1 := (cell_blk hxd 1); have d2 := (cell_blk hxd 2); have d3 := (cell_blk hxd 3); have d4 := (cell_blk hxd 4)
    have e0 := (cell_blk hye 0); have e1 := (cell_blk hye 1); have e2 := (cell_blk hye 2); have e3 := (cell_blk hye 3); have e4 := (cell_blk hye 4)
    simp at d0 d1 d2 d3 d4 e0 e1 e2 e3 e4
    obtain ⟨d0, k0⟩ := d0; obtain ⟨d1, k1⟩ := d1; obtain ⟨d2, k2⟩ := d2; obtain ⟨d3, k3⟩ := d3; obtain ⟨d4, k4⟩ := d4
    obtain ⟨e0, f0⟩ := e0; obtain ⟨e1, f1⟩ := e1; obtain ⟨e2, f2⟩ := e2; obtain ⟨e3, f3⟩ := e3; obtain ⟨e4, f4⟩ := e4
    clear hxd hye
    by_cases h0 : er = 0
    · subst h0
      have HV2 : Hid (newV n r = .tuple #[bqV 1 ((n : Int) - 1) 0 C (.slice none 0 0), .int .i64 0]) := Lib.hid (by rw [HV.out, if_neg (by simp)])
      clear HV
      go_wp2_with fail
      change bodyPost _ _ _ _ _ (set5 z1 E (.int .i64 1) (.int .i64 ((n : Int) - 1)) (.int .i64 0) (.int .i64 C) (.slice none 0 0))
      have hz := set5_at HYE.out (.int .i64 1) (.int .i64 ((n : Int) - 1)) (.int .i64 0) (.int .i64 C) (.slice none 0 0)
      have HZB := Lib.hid (set5_below HB2.out HDE.out.1 (.int .i64 1) (.int .i64 ((n : Int) - 1)) (.int .i64 0) (.int .i64 C) (.slice none 0 0))
      obtain ⟨z, hzz⟩ : ∃ z, set5 z1 E (.int .i64 1) (.int .i64 ((n : Int) - 1)) (.int .i64 0) (.int .i64 C) (.slice none 0 0) = z := ⟨_, rfl⟩
      rw [hzz] at hz HZB ⊢
      have g0 := (cell_blk hz 0).1; have g1 := (cell_blk hz 1).1; have g2 := (cell_blk hz 2).1; have g3 := (cell_blk hz 3).1; have g4 := (cell_blk hz 4).1
      simp at g0 g1 g2 g3 g4
      exact bodyPost_ret (v := .tuple #[.agg #[.int .i64 1, .int .i64 ((n : Int) - 1), .int .i64 0, .int .i64 C, .slice none 0 0], .int .i64 0]) (by simp [results, Tryz.results12, go_sem, g0, g1, g2, g3, g4]) rfl ⟨by rw [HV2.out], HZB.out⟩
    · have HV2 : Hid (newV n r = .tuple #[bqV 0 0 0 0 (.slice none 0 0), .int .i64 er]) := Lib.hid (by rw [HV.out, if_pos h0])
      clear HV
      go_wp2_with fail
      change bodyPost _ _ _ _ _ (set5 z1 E (.int .i64 0) (.int .i64 0) (.int .i64 0) (.int .i64 0) (.slice none 0 0))
      have hz := set5_at HYE.out (.int .i64 0) (.int .i64 0) (.int .i64 0) (.int .i64 0) (.slice none 0 0)
      have HZB := Lib.hid (set5_below HB2.out HDE.out.1 (.int .i64 0) (.int .i64 0) (.int .i64 0) (.int .i64 0) (.slice none 0 0))
      obtain ⟨z, hzz⟩ : ∃ z, set5 z1 E (.int .i64 0) (.int .i64 0) (.int .i64 0) (.int .i64 0) (.slice none 0 0) = z := ⟨_, rfl⟩
      rw [hzz] at hz HZB ⊢
      have g0 := (cell_blk hz 0).1; have g1 := (cell_blk hz 1).1; have g2 := (cell_blk hz 2).1; have g3 := (cell_blk hz 3).1; have g4 := (cell_blk hz 4).1
      simp at g0 g1 g2 g3 g4
      exact bodyPost_ret (v := .tuple #[.agg #[.int .i64 0, .int .i64 0, .int .i64 0, .int .i64 0, .slice none 0 0], .int .i64 er]) (by simp [results, Tryz.results12, go_sem, g0, g1, g2, g3, g4]) rfl ⟨by rw [HV2.out], HZB.out⟩
end Go.Proofs.YtfemgekhpcgliaaGreat.Bt
/- What no arena answers; ArenaNil. -/
namespace Go.Proofs.YtfemgekhpcgliaaGreat.Bt
open Go Go.RowKit Go.Shelf
set_option linter.unusedVariables false

end Go.Proofs.YtfemgekhpcgliaaGreat.Bt
/- The contracts of a view's address, At, Size, Load, Bytes: what each returns, and that nothing that was there is turned. -/
namespace Go.Proofs.YtfemgekhpcgliaaGreat.Bt
open Go Go.RowKit Go.Shelf
set_option linter.unusedVariables false

/-- the address of a place from which on so many bytes are within the view -/
def addrV (va vs : Nat) (a k : Int) : Int := if 0 ≤ a ∧ 0 ≤ k ∧ k ≤ (vs : Int) - a then (va : Int) + a else -1
theorem addrV_le {va vs : Nat} (h1 : va ≤ 4294967296) (h2 : vs ≤ 4294967296) (a k : Int) : addrV va vs a k ≤ 9223372036854775807 := by unfold addrV; split <;> omega
theorem address_any (pa : Option Addr) (va vs : Nat) (h1 : va ≤ 4294967296) (h2 : vs ≤ 4294967296) (a k : Int) (ha : a ≤ 9223372036854775807) (w : World) :
    Calls Tryz.prog 97 #[.agg #[.pointer pa, .int .i64 (va : Int), .int .i64 (vs : Int)], .int .i64 a, .int .i64 k] w fun e w' => e = .returned (.int .i64 (addrV va vs a k)) ∧ Below w.heap.size w w' := by
  by_cases c1 : a < 0
  · have HR : Hid (addrV va vs a k = -1) := Lib.hid (by unfold addrV; rw [if_neg (by omega)])
    have d1 : decide (a < 0) = true := by simpa using c1
    go_enter Tryz.func97, Tryz.ntmps97
    go_wp2_with fail
    go_ret
    exact ⟨by rw [HR.out]; rfl, (Below.refl _ _).alloc (Nat.le_refl _) _⟩
  have d1 : decide (a < 0) = false := by simpa using c1
  by_cases c2 : k < 0
  · have HR : Hid (addrV va vs a k = -1) := Lib.hid (by unfold addrV; rw [if_neg (by omega)])
    have d2 : decide (k < 0) = true := by simpa using c2
    go_enter Tryz.func97, Tryz.ntmps97
    go_wp2_with fail
    go_ret
    exact ⟨by rw [HR.out]; rfl, (Below.refl _ _).alloc (Nat.le_refl _) _⟩
  have d2 : decide (k < 0) = false := by simpa using c2
  by_cases c3 : (vs : Int) - a < k
  · have HR : Hid (addrV va vs a k = -1) := Lib.hid (by unfold addrV; rw [if_neg (by omega)])
    have d3 : decide ((vs : Int) - a < k) = true := by simpa using c3
    go_enter Tryz.func97, Tryz.ntmps97
    go_wp2_with fail
    go_ret
    exact ⟨by rw [HR.out]; rfl, (Below.refl _ _).alloc (Nat.le_refl _) _⟩
  · have HR : Hid (addrV va vs a k = (va : Int) + a) := Lib.hid (by unfold addrV; rw [if_pos (by omega)])
    have d3 : decide ((vs : Int) - a < k) = false := by simpa using c3
    go_enter Tryz.func97, Tryz.ntmps97
    go_wp2_with fail
    go_ret
    exact ⟨by rw [HR.out]; rfl, (Below.refl _ _).alloc (Nat.le_refl _) _⟩
theorem vsize_any (pa : Option Addr) (va vs : Nat) (w : World) : Calls Tryz.prog 105 #[.agg #[.pointer pa, .int .i64 (va : Int), .int .i64 (vs : Int)]] w fun e w' => e = .returned (.int .i64 (vs : Int)) ∧ Below w.heap.size w w' := by
  go_enter Tryz.func105, Tryz.ntmps105
  go_wp2_with fail
  go_ret
  exact ⟨rfl, (Below.refl _ _).alloc (Nat.le_refl _) _⟩

/-- the view's own variable, and what lay ahead of it -/
def VH (B : Nat) (pa : Option Addr) (va vs : Nat) (w x : World) : Prop := x.heap[B]? = some (.cells #[.pointer pa, .int .i64 (va : Int), .int .i64 (vs : Int)] 40 (0, 0)) ∧ Below w.heap.size w x
theorem VH.lt {B : Nat} {pa : Option Addr} {va vs : Nat} {w x : World} (h : VH B pa va vs w x) : B < x.heap.size := (Array.getElem?_eq_some_iff.1 h.1).1
theorem VH.below {B : Nat} {pa : Option Addr} {va vs : Nat} {w x y : World} (h : VH B pa va vs w x) (hb : Below x.heap.size x y) : VH B pa va vs w y := ⟨(hb.block _ h.lt).trans h.1, h.2.trans (hb.mono h.2.size)⟩
theorem VH.all {B : Nat} {pa : Option Addr} {va vs : Nat} {w x : World} (h : VH B pa va vs w x) : x.cell? ⟨B, 0, none⟩ = some (.pointer pa) ∧ x.cell? ⟨B, 1, none⟩ = some (.int .i64 (va : Int)) ∧ x.cell? ⟨B, 2, none⟩ = some (.int .i64 (vs : Int)) ∧ VH B pa va vs w x :=
  ⟨(cell_blk h.1 0).1, (cell_blk h.1 1).1, (cell_blk h.1 2).1, h⟩
theorem VH.new (pa : Option Addr) (va vs : Nat) (w : World) : VH w.heap.size pa va vs w (w.alloc (.cells #[.pointer pa, .int .i64 (va : Int), .int .i64 (vs : Int)] 40)) := ⟨heap_new _ _, (Below.refl _ _).alloc (Nat.le_refl _) _⟩

set_option maxHeartbeats 1000000 in
theorem vload_gen (pa : Option Addr) (va vs : Nat) (h1 : va ≤ 4294967296) (h2 : vs ≤ 4294967296) (a k : Int) (ha : a ≤ 9223372036854775807) (w : World) (v er : Int)
    (HC : ∀ x, Below w.heap.size w x → Calls Tryz.prog 98 #[.pointer pa, .int .i64 (addrV va vs a k), .int .i64 k] x fun e x' => e = .returned (.tuple #[.int .u64 v, .int .i64 er]) ∧ Below x.heap.size x x') :
    Calls Tryz.prog 49 #[.agg #[.pointer pa, .int .i64 (va : Int), .int .i64 (vs : Int)], .int .i64 a, .int .i64 k] w fun e w' => e = .returned (.tuple #[.int .u64 v, .int .i64 er]) ∧ Below w.heap.size w w' := by
  have HC' := Lib.hid HC; clear HC
  go_enter Tryz.func49, Tryz.ntmps49
  go_wp2_with fail
  have HH := VH.new pa va vs w
  obtain ⟨w1, hw1⟩ : ∃ w1, w.alloc (.cells #[.pointer pa, .int .i64 (va : Int), .int .i64 (vs : Int)] 40) = w1 := ⟨_, rfl⟩
  rw [hw1] at HH ⊢
  clear hw1
  obtain ⟨B, hB⟩ : ∃ B, w.heap.size = B := ⟨_, rfl⟩
  rw [hB] at HH ⊢
  clear hB
  go_region_held3 (fun x => x.cell? ⟨B, 0, none⟩ = some (.pointer pa) ∧ x.cell? ⟨B, 1, none⟩ = some (.int .i64 (va : Int)) ∧ x.cell? ⟨B, 2, none⟩ = some (.int .i64 (vs : Int)) ∧ VH B pa va vs w x)
    (first | exact (HH.below (Below.refl _ _).drew).all | assumption)
    (first | (go_at_call 97; refine (address_any pa va vs h1 h2 a k ha _).mono ?_; rintro e w' ⟨rfl, hbb⟩; have hnx := ((HH.below (Below.refl _ _).drew).below hbb).all)
           | (go_at_call 98; refine (HC'.out _ hnx.2.2.2.2).mono ?_; rintro e w'' ⟨rfl, hbc⟩; have hny := (hnx.2.2.2.below hbc).all))
  have hf := hny.2.2.2.2
  clear HH hnx hny
  go_wp2_with fail
  go_ret2
  exact ⟨rfl, hf⟩
end Go.Proofs.YtfemgekhpcgliaaGreat.Bt
/- The contracts of a view's Bytes, Store, Put, Fill, Copy, out of those of its arena. -/
namespace Go.Proofs.YtfemgekhpcgliaaGreat.Bt
open Go Go.RowKit Go.Shelf
set_option linter.unusedVariables false

def VC (B : Nat) (pa : Option Addr) (va vs : Nat) (x : World) : Prop := x.heap[B]? = some (.cells #[.pointer pa, .int .i64 (va : Int), .int .i64 (vs : Int)] 40 (0, 0))
theorem VC.below {B : Nat} {pa : Option Addr} {va vs : Nat} {x y : World} (h : VC B pa va vs x) (hb : Below x.heap.size x y) : VC B pa va vs y := (hb.block _ (Array.getElem?_eq_some_iff.1 h).1).trans h
theorem VC.all {B : Nat} {pa : Option Addr} {va vs : Nat} {x : World} (h : VC B pa va vs x) : x.cell? ⟨B, 0, none⟩ = some (.pointer pa) ∧ x.cell? ⟨B, 1, none⟩ = some (.int .i64 (va : Int)) ∧ x.cell? ⟨B, 2, none⟩ = some (.int .i64 (vs : Int)) ∧ VC B pa va vs x :=
  ⟨(cell_blk h 0).1, (cell_blk h 1).1, (cell_blk h 2).1, h⟩
/-- what a call on a view comes to that is its arena's -/
def Thru (er : Int) (Q : World → World → Prop) (w : World) (e : Ending) (w' : World) : Prop := e = .returned (.int .i64 er) ∧ ∃ x, Below w.heap.size w x ∧ Q x w'
/-- a call of the arena keeps a view's variable -/
def KeepsV (w : World) (Q : World → World → Prop) : Prop := ∀ (x x' : World) (B : Nat) (c : Array Value), Below w.heap.size w x → Q x x' → x.heap[B]? = some (.cells c 40 (0, 0)) → x'.heap[B]? = x.heap[B]?

set_option maxHeartbeats 1000000 in
theorem vstore_gen (pa : Option Addr) (va vs : Nat) (h1 : va ≤ 4294967296) (h2 : vs ≤ 4294967296) (a : Int) (ha : a ≤ 9223372036854775807) (k x : Int) (w : World) (er : Int) (Q : World → World → Prop)
    (HC : ∀ X, Below w.heap.size w X → Calls Tryz.prog 96 #[.pointer pa, .int .i64 (addrV va vs a k), .int .i64 k, .int .u64 x] X fun e X' => e = .returned (.int .i64 er) ∧ Q X X')
    (HK : KeepsV w Q) :
    Calls Tryz.prog 46 #[.agg #[.pointer pa, .int .i64 (va : Int), .int .i64 (vs : Int)], .int .i64 a, .int .i64 k, .int .u64 x] w (Thru er Q w) := by
  have HC' := Lib.hid HC; have HK' := Lib.hid HK; clear HC HK
  go_enter Tryz.func46, Tryz.ntmps46
  go_wp2_with fail
  have HH : VC w.heap.size pa va vs (w.alloc (.cells #[.pointer pa, .int .i64 (va : Int), .int .i64 (vs : Int)] 40)) := heap_new _ _
  have HB := (Below.refl w.heap.size w).alloc (Nat.le_refl _) (.cells #[.pointer pa, .int .i64 (va : Int), .int .i64 (vs : Int)] 40)
  obtain ⟨w1, hw1⟩ : ∃ w1, w.alloc (.cells #[.pointer pa, .int .i64 (va : Int), .int .i64 (vs : Int)] 40) = w1 := ⟨_, rfl⟩
  rw [hw1] at HH HB ⊢
  clear hw1
  obtain ⟨B, hB⟩ : ∃ B, w.heap.size = B := ⟨_, rfl⟩
  have HBh := Lib.hid HB
  clear HB
  rw [hB] at HH ⊢
  clear hB
  go_region_held3 (fun x => x.cell? ⟨B, 0, none⟩ = some (.pointer pa) ∧ x.cell? ⟨B, 1, none⟩ = some (.int .i64 (va : Int)) ∧ x.cell? ⟨B, 2, none⟩ = some (.int .i64 (vs : Int)) ∧ VC B pa va vs x)
    (first | exact (HH.below (Below.refl _ _).drew).all | assumption)
    (first | (go_at_call 97; refine (address_any pa va vs h1 h2 a k ha _).mono ?_; rintro e w' ⟨rfl, hbb⟩; have hnx := ((HH.below (Below.refl _ _).drew).below hbb).all; have hbw := (HBh.out.drew).trans (hbb.mono HBh.out.size))
           | (go_at_call 96; refine (HC'.out _ hbw).mono ?_; rintro e w'' ⟨rfl, hq⟩; have hny := VC.all (B := B) (pa := pa) (va := va) (vs := vs) (x := w'') ((HK'.out _ _ _ _ hbw hq hnx.2.2.2).trans hnx.2.2.2)))
  have HF := Lib.hid (And.intro hbw hq)
  clear HH hnx hny hbw hq
  go_wp2_with fail
  go_ret
  exact ⟨rfl, _, HF.out.1, HF.out.2⟩

set_option maxHeartbeats 1000000 in
theorem vfill_gen (pa : Option Addr) (va vs : Nat) (h1 : va ≤ 4294967296) (h2 : vs ≤ 4294967296) (a : Int) (ha : a ≤ 9223372036854775807) (k b : Int) (w : World) (er : Int) (Q : World → World → Prop)
    (HC : ∀ X, Below w.heap.size w X → Calls Tryz.prog 133 #[.pointer pa, .int .i64 (addrV va vs a k), .int .i64 k, .int .u8 b] X fun e X' => e = .returned (.int .i64 er) ∧ Q X X')
    (HK : KeepsV w Q) :
    Calls Tryz.prog 117 #[.agg #[.pointer pa, .int .i64 (va : Int), .int .i64 (vs : Int)], .int .i64 a, .int .i64 k, .int .u8 b] w (Thru er Q w) := by
  have HC' := Lib.hid HC; have HK' := Lib.hid HK; clear HC HK
  go_enter Tryz.func117, Tryz.ntmps117
  go_wp2_with fail
  have HH : VC w.heap.size pa va vs (w.alloc (.cells #[.pointer pa, .int .i64 (va : Int), .int .i64 (vs : Int)] 40)) := heap_new _ _
  have HB := (Below.refl w.heap.size w).alloc (Nat.le_refl _) (.cells #[.pointer pa, .int .i64 (va : Int), .int .i64 (vs : Int)] 40)
  obtain ⟨w1, hw1⟩ : ∃ w1, w.alloc (.cells #[.pointer pa, .int .i64 (va : Int), .int .i64 (vs : Int)] 40) = w1 := ⟨_, rfl⟩
  rw [hw1] at HH HB ⊢
  clear hw1
  obtain ⟨B, hB⟩ : ∃ B, w.heap.size = B := ⟨_, rfl⟩
  have HBh := Lib.hid HB
  clear HB
  rw [hB] at HH ⊢
  clear hB
  go_region_held3 (fun x => x.cell? ⟨B, 0, none⟩ = some (.pointer pa) ∧ x.cell? ⟨B, 1, none⟩ = some (.int .i64 (va : Int)) ∧ x.cell? ⟨B, 2, none⟩ = some (.int .i64 (vs : Int)) ∧ VC B pa va vs x)
    (first | exact (HH.below (Below.refl _ _).drew).all | assumption)
    (first | (go_at_call 97; refine (address_any pa va vs h1 h2 a k ha _).mono ?_; rintro e w' ⟨rfl, hbb⟩; have hnx := ((HH.below (Below.refl _ _).drew).below hbb).all; have hbw := (HBh.out.drew).trans (hbb.mono HBh.out.size))
           | (go_at_call 133; refine (HC'.out _ hbw).mono ?_; rintro e w'' ⟨rfl, hq⟩; have hny := VC.all (B := B) (pa := pa) (va := va) (vs := vs) (x := w'') ((HK'.out _ _ _ _ hbw hq hnx.2.2.2).trans hnx.2.2.2)))
  have HF := Lib.hid (And.intro hbw hq)
  clear HH hnx hny hbw hq
  go_wp2_with fail
  go_ret
  exact ⟨rfl, _, HF.out.1, HF.out.2⟩

end Go.Proofs.YtfemgekhpcgliaaGreat.Bt
/- The contracts of Of and Part. -/
namespace Go.Proofs.YtfemgekhpcgliaaGreat.Bt
open Go Go.RowKit Go.Shelf
set_option linter.unusedVariables false

theorem copy_self {A P n cap : Nat} {s : ASt} {ps : List (Option Nat)} {p : Option Addr} {w : World} (h : ArX A s P ps p n cap w) (a k : Int) (ha : a ≤ 9223372036854775807) :
    Calls Tryz.prog 127 #[.pointer (some ⟨A, 0, none⟩), .int .i64 a, .int .i64 a, .int .i64 k] w fun e w' => e = .returned (.int .i64 (thereE s.L s.es a k)) ∧ Below w.heap.size w w' := by
  have HC := fun w (hw : ArX A s P ps p n cap w) => there_any hw a k ha
  have HX := Lib.hid h
  clear h
  rcases thereE_or s.L s.es a k with ht | ht
  all_goals
    have HT := Lib.hid ht
    have hd : (a == a) = true := by simp
    clear ht
    go_enter Tryz.func127, Tryz.ntmps127
    go_wp2_with fail
    refine (HC _ HX.out).mono ?_
    rintro e w1 ⟨rfl, hb⟩
    rw [HT.out]
    clear HC
    go_wp2_with fail
    go_ret
    exact ⟨by rw [HT.out]; rfl, hb⟩
def ofV (pa : Option Addr) (a k er : Int) : Value := if er = 0 then .agg #[.pointer pa, .int .i64 a, .int .i64 k] else .agg #[.pointer none, .int .i64 0, .int .i64 0]
theorem three_set {x : World} {B : Nat} {c : Array Value} {T : TypeId} (h : x.heap[B]? = some (.cells c T (0, 0))) (hc : c.size = 3) (u v z : Value) :
    (((x.setCell ⟨B, 0, none⟩ u).setCell ⟨B, 1, none⟩ v).setCell ⟨B, 2, none⟩ z).heap[B]? = some (.cells #[u, v, z] T (0, 0)) := by
  rw [heap_set (heap_set (heap_set h u) v) z]
  match c, hc with
  | ⟨[_, _, _]⟩, _ => rfl
theorem vof_gen (pa : Option Addr) (a k : Int) (w : World) (er : Int)
    (HC : ∀ X, Below w.heap.size w X → Calls Tryz.prog 127 #[.pointer pa, .int .i64 a, .int .i64 a, .int .i64 k] X fun e X' => e = .returned (.int .i64 er) ∧ Below X.heap.size X X') :
    Calls Tryz.prog 92 #[.pointer pa, .int .i64 a, .int .i64 k] w fun e w' => e = .returned (.tuple #[ofV pa a k er, .int .i64 er]) ∧ Below w.heap.size w w' := by
  have HC' := Lib.hid HC; clear HC
  have B0 : Below w.heap.size w (w.alloc (.cells #[.pointer none, .int .i64 0, .int .i64 0] 40)) := (Below.refl _ _).alloc (Nat.le_refl _) _
  have R0 : (w.alloc (.cells #[.pointer none, .int .i64 0, .int .i64 0] 40)).heap[w.heap.size]? = some (.cells #[.pointer none, .int .i64 0, .int .i64 0] 40 (0, 0)) := heap_new _ _
  have sz : (w.alloc (.cells #[.pointer none, .int .i64 0, .int .i64 0] 40)).heap.size = w.heap.size + 1 := by simp
  have HB0 := Lib.hid B0; have HR0 := Lib.hid R0; have HSZ := Lib.hid sz
  clear B0 R0 sz
  by_cases he : er = 0
  · have hE : Hid (ofV pa a k er = .agg #[.pointer pa, .int .i64 a, .int .i64 k]) := Lib.hid (by unfold ofV; rw [if_pos he])
    have hd : (er != 0) = false := by simpa using he
    have HER := Lib.hid he
    clear he
    go_enter Tryz.func92, Tryz.ntmps92
    go_wp2_with fail
    refine (HC'.out _ HB0.out).mono ?_
    rintro e w1 ⟨rfl, hb⟩
    have R1 := (hb.block w.heap.size (by rw [HSZ.out]; omega)).trans HR0.out
    have B1 := HB0.out.trans (hb.mono (by rw [HSZ.out]; omega))
    have r0 : w1.cell? ⟨w.heap.size, 0, none⟩ = some (.pointer none) := (cell_blk R1 0).1
    have r1 : w1.cell? ⟨w.heap.size, 1, none⟩ = some (.int .i64 0) := (cell_blk R1 1).1
    have r2 : w1.cell? ⟨w.heap.size, 2, none⟩ = some (.int .i64 0) := (cell_blk R1 2).1
    have f0 := (cell_blk R1 0).2; have f1 := (cell_blk R1 1).2; have f2 := (cell_blk R1 2).2
    have HR1 := Lib.hid R1
    clear R1 hb
    go_wp2_with fail
    have h3 := three_set HR1.out rfl (.pointer pa) (.int .i64 a) (.int .i64 k)
    have g0 : (((w1.setCell ⟨w.heap.size, 0, none⟩ (.pointer pa)).setCell ⟨w.heap.size, 1, none⟩ (.int .i64 a)).setCell ⟨w.heap.size, 2, none⟩ (.int .i64 k)).cell? ⟨w.heap.size, 0, none⟩ = some (.pointer pa) := (cell_blk h3 0).1
    have g1 : (((w1.setCell ⟨w.heap.size, 0, none⟩ (.pointer pa)).setCell ⟨w.heap.size, 1, none⟩ (.int .i64 a)).setCell ⟨w.heap.size, 2, none⟩ (.int .i64 k)).cell? ⟨w.heap.size, 1, none⟩ = some (.int .i64 a) := (cell_blk h3 1).1
    have g2 : (((w1.setCell ⟨w.heap.size, 0, none⟩ (.pointer pa)).setCell ⟨w.heap.size, 1, none⟩ (.int .i64 a)).setCell ⟨w.heap.size, 2, none⟩ (.int .i64 k)).cell? ⟨w.heap.size, 2, none⟩ = some (.int .i64 k) := (cell_blk h3 2).1
    have hbf : Below w.heap.size w (((w1.setCell ⟨w.heap.size, 0, none⟩ (.pointer pa)).setCell ⟨w.heap.size, 1, none⟩ (.int .i64 a)).setCell ⟨w.heap.size, 2, none⟩ (.int .i64 k)) := ((B1.setCell (p := ⟨w.heap.size, 0, none⟩) (Nat.le_refl _) _).setCell (p := ⟨w.heap.size, 1, none⟩) (Nat.le_refl _) _).setCell (p := ⟨w.heap.size, 2, none⟩) (Nat.le_refl _) _
    exact bodyPost_ret (v := .tuple #[.agg #[.pointer pa, .int .i64 a, .int .i64 k], .int .i64 0]) (by simp [results, Tryz.results92, go_sem, g0, g1, g2]) rfl ⟨by rw [hE.out]; rw [HER.out], hbf⟩
  · have hE : Hid (ofV pa a k er = .agg #[.pointer none, .int .i64 0, .int .i64 0]) := Lib.hid (by unfold ofV; rw [if_neg he])
    have hd : (er != 0) = true := by simpa using he
    clear he
    go_enter Tryz.func92, Tryz.ntmps92
    go_wp2_with fail
    refine (HC'.out _ HB0.out).mono ?_
    rintro e w1 ⟨rfl, hb⟩
    have R1 := (hb.block w.heap.size (by rw [HSZ.out]; omega)).trans HR0.out
    have B1 := HB0.out.trans (hb.mono (by rw [HSZ.out]; omega))
    have r0 : w1.cell? ⟨w.heap.size, 0, none⟩ = some (.pointer none) := (cell_blk R1 0).1
    have r1 : w1.cell? ⟨w.heap.size, 1, none⟩ = some (.int .i64 0) := (cell_blk R1 1).1
    have r2 : w1.cell? ⟨w.heap.size, 2, none⟩ = some (.int .i64 0) := (cell_blk R1 2).1
    have f0 := (cell_blk R1 0).2; have f1 := (cell_blk R1 1).2; have f2 := (cell_blk R1 2).2
    have HR1 := Lib.hid R1
    clear R1 hb
    go_wp2_with fail
    have h3 := three_set HR1.out rfl (.pointer none) (.int .i64 0) (.int .i64 0)
    have g0 : (((w1.setCell ⟨w.heap.size, 0, none⟩ (.pointer none)).setCell ⟨w.heap.size, 1, none⟩ (.int .i64 0)).setCell ⟨w.heap.size, 2, none⟩ (.int .i64 0)).cell? ⟨w.heap.size, 0, none⟩ = some (.pointer none) := (cell_blk h3 0).1
    have g1 : (((w1.setCell ⟨w.heap.size, 0, none⟩ (.pointer none)).setCell ⟨w.heap.size, 1, none⟩ (.int .i64 0)).setCell ⟨w.heap.size, 2, none⟩ (.int .i64 0)).cell? ⟨w.heap.size, 1, none⟩ = some (.int .i64 0) := (cell_blk h3 1).1
    have g2 : (((w1.setCell ⟨w.heap.size, 0, none⟩ (.pointer none)).setCell ⟨w.heap.size, 1, none⟩ (.int .i64 0)).setCell ⟨w.heap.size, 2, none⟩ (.int .i64 0)).cell? ⟨w.heap.size, 2, none⟩ = some (.int .i64 0) := (cell_blk h3 2).1
    have hbf : Below w.heap.size w (((w1.setCell ⟨w.heap.size, 0, none⟩ (.pointer none)).setCell ⟨w.heap.size, 1, none⟩ (.int .i64 0)).setCell ⟨w.heap.size, 2, none⟩ (.int .i64 0)) := ((B1.setCell (p := ⟨w.heap.size, 0, none⟩) (Nat.le_refl _) _).setCell (p := ⟨w.heap.size, 1, none⟩) (Nat.le_refl _) _).setCell (p := ⟨w.heap.size, 2, none⟩) (Nat.le_refl _) _
    exact bodyPost_ret (v := .tuple #[.agg #[.pointer none, .int .i64 0, .int .i64 0], .int .i64 er]) (by simp [results, Tryz.results92, go_sem, g0, g1, g2]) rfl ⟨by rw [hE.out], hbf⟩
theorem vof_any {A P n cap : Nat} {s : ASt} {ps : List (Option Nat)} {p : Option Addr} {w : World} (h : ArX A s P ps p n cap w) (a k : Int) (ha : a ≤ 9223372036854775807) :
    Calls Tryz.prog 92 #[.pointer (some ⟨A, 0, none⟩), .int .i64 a, .int .i64 k] w fun e w' => e = .returned (.tuple #[ofV (some ⟨A, 0, none⟩) a k (thereE s.L s.es a k), .int .i64 (thereE s.L s.es a k)]) ∧ Below w.heap.size w w' :=
  vof_gen _ a k w _ fun X hX => copy_self (h.below hX) a k ha
theorem VC.far {B R : Nat} {pa : Option Addr} {va vs : Nat} {x : World} (hne : B ≠ R) (h : VC B pa va vs x) (u v z : Value) : VC B pa va vs (((x.setCell ⟨R, 0, none⟩ u).setCell ⟨R, 1, none⟩ v).setCell ⟨R, 2, none⟩ z) :=
  (Below.heap_setCell _ ⟨R, 2, none⟩ _ _ hne).trans ((Below.heap_setCell _ ⟨R, 1, none⟩ _ _ hne).trans ((Below.heap_setCell _ ⟨R, 0, none⟩ _ _ hne).trans h))
set_option maxHeartbeats 2000000 in
theorem vpart_gen (pa : Option Addr) (va vs : Nat) (h1 : va ≤ 4294967296) (h2 : vs ≤ 4294967296) (a k : Int) (ha : a ≤ 9223372036854775807) (w : World) (pu : Option Addr) (iv iz : Int) (er : Int)
    (HC : ∀ X, Below w.heap.size w X → Calls Tryz.prog 92 #[.pointer pa, .int .i64 (addrV va vs a k), .int .i64 k] X fun e X' => e = .returned (.tuple #[.agg #[.pointer pu, .int .i64 iv, .int .i64 iz], .int .i64 er]) ∧ Below X.heap.size X X') :
    Calls Tryz.prog 93 #[.agg #[.pointer pa, .int .i64 (va : Int), .int .i64 (vs : Int)], .int .i64 a, .int .i64 k] w fun e w' => e = .returned (.tuple #[.agg #[.pointer pu, .int .i64 iv, .int .i64 iz], .int .i64 er]) ∧ Below w.heap.size w w' := by
  have HC' := Lib.hid HC; clear HC
  go_enter Tryz.func93, Tryz.ntmps93
  go_wp2_with fail
  obtain ⟨w1, hw1⟩ : ∃ w1, (w.alloc (.cells #[.pointer pa, .int .i64 (va : Int), .int .i64 (vs : Int)] 40)).alloc (.cells #[.pointer none, .int .i64 0, .int .i64 0] 40) = w1 := ⟨_, rfl⟩
  have HH : VC w.heap.size pa va vs w1 := by rw [← hw1]; unfold VC; rw [Below.heap_alloc _ _ _ (by simp)]; exact heap_new _ _
  have HR : w1.heap[w.heap.size + 1]? = some (.cells #[.pointer none, .int .i64 0, .int .i64 0] 40 (0, 0)) := by
    rw [← hw1]; have := heap_new (w.alloc (.cells #[.pointer pa, .int .i64 (va : Int), .int .i64 (vs : Int)] 40)) (.cells #[.pointer none, .int .i64 0, .int .i64 0] 40); simpa using this
  have HB : Below w.heap.size w w1 := by rw [← hw1]; exact ((Below.refl w.heap.size w).alloc (Nat.le_refl _) _).alloc (by simp) _
  have hs1 : w1.heap.size = w.heap.size + 2 := by rw [← hw1]; simp
  rw [hw1]
  clear hw1
  obtain ⟨R, hR⟩ : ∃ R, w.heap.size + 1 = R := ⟨_, rfl⟩
  obtain ⟨B, hB⟩ : ∃ B, w.heap.size = B := ⟨_, rfl⟩
  have HBh := Lib.hid HB
  have hBR : B ≠ R := by omega
  have HRl : Hid (w.heap.size ≤ R ∧ R < w1.heap.size) := Lib.hid (by omega)
  rw [hR] at HR ⊢
  clear HB hR hs1
  rw [hB] at HH ⊢
  clear hB
  have HRh := Lib.hid HR; have HBR := Lib.hid hBR
  clear HR hBR
  go_region_held3 (fun x => x.cell? ⟨B, 0, none⟩ = some (.pointer pa) ∧ x.cell? ⟨B, 1, none⟩ = some (.int .i64 (va : Int)) ∧ x.cell? ⟨B, 2, none⟩ = some (.int .i64 (vs : Int)) ∧ VC B pa va vs x)
    (first | exact (HH.below (Below.refl _ _).drew).all | assumption)
    (first | (go_at_call 97; refine (address_any pa va vs h1 h2 a k ha _).mono ?_; rintro e w' ⟨rfl, hbb⟩; have hnx := ((HH.below (Below.refl _ _).drew).below hbb).all; have hbw := (HBh.out.drew).trans (hbb.mono HBh.out.size); have hb1 := Lib.hid hbb)
           | (go_at_call 92; refine (HC'.out _ hbw).mono ?_; rintro e w'' ⟨rfl, hbc⟩; have hR2 := ((hb1.out.trans (hbc.mono hb1.out.size)).block R HRl.out.2).trans HRh.out; have r0 : w''.cell? ⟨R, 0, none⟩ = some (.pointer none) := (cell_blk hR2 0).1; have r1 : w''.cell? ⟨R, 1, none⟩ = some (.int .i64 0) := (cell_blk hR2 1).1; have r2 : w''.cell? ⟨R, 2, none⟩ = some (.int .i64 0) := (cell_blk hR2 2).1; have f0 := (cell_blk hR2 0).2; have f1 := (cell_blk hR2 1).2; have f2 := (cell_blk hR2 2).2; have hny := (hnx.2.2.2.below hbc).all; have hV3 := VC.far HBR.out hny.2.2.2 (.pointer pu) (.int .i64 iv) (.int .i64 iz); have hnz := hV3.all; have HR2 := Lib.hid hR2; clear hR2 hV3))
  have h3 := three_set HR2.out rfl (.pointer pu) (.int .i64 iv) (.int .i64 iz)
  have hbf := (((hbw.trans (hbc.mono hbw.size)).setCell (p := ⟨R, 0, none⟩) HRl.out.1 (.pointer pu)).setCell (p := ⟨R, 1, none⟩) HRl.out.1 (.int .i64 iv)).setCell (p := ⟨R, 2, none⟩) HRl.out.1 (.int .i64 iz)
  have HBF := Lib.hid hbf
  obtain ⟨w4, hw4⟩ : ∃ w4, (((w''.setCell ⟨R, 0, none⟩ (.pointer pu)).setCell ⟨R, 1, none⟩ (.int .i64 iv)).setCell ⟨R, 2, none⟩ (.int .i64 iz)) = w4 := ⟨_, rfl⟩
  rw [hw4] at h3 HBF ⊢
  clear hw4 hbf hnx hny hnz HH
  have g0 : w4.cell? ⟨R, 0, none⟩ = some (.pointer pu) := (cell_blk h3 0).1
  have g1 : w4.cell? ⟨R, 1, none⟩ = some (.int .i64 iv) := (cell_blk h3 1).1
  have g2 : w4.cell? ⟨R, 2, none⟩ = some (.int .i64 iz) := (cell_blk h3 2).1
  go_wp2_with fail
  exact bodyPost_ret (v := .tuple #[.agg #[.pointer pu, .int .i64 iv, .int .i64 iz], .int .i64 er]) (by simp [results, Tryz.results93, go_sem, g0, g1, g2]) rfl ⟨rfl, HBF.out⟩
end Go.Proofs.YtfemgekhpcgliaaGreat.Bt
/- The contracts of a view's calls, of an arena and of none. -/
namespace Go.Proofs.YtfemgekhpcgliaaGreat.Bt
open Go Go.RowKit Go.Shelf
set_option linter.unusedVariables false

section
variable {A P n cap : Nat} {s : ASt} {ps : List (Option Nat)} {p : Option Addr} {w : World}
theorem keepsV_ar (h : ArX A s P ps p n cap w) (s' : ASt) : KeepsV w (fun x x' => Turned A P ps p s' x x') := fun x x' B c hb ⟨ps', p', n', cap', _, hst, _⟩ hB =>
  hst.block B (Array.getElem?_eq_some_iff.1 hB).1 (own_not (h.below hb) hB (by decide) (by decide) (by decide))
theorem thru_turned {er : Int} {s' : ASt} {e : Ending} {w' : World} (h : Thru er (fun x x' => Turned A P ps p s' x x') w e w') : e = .returned (.int .i64 er) ∧ Turned A P ps p s' w w' := by
  obtain ⟨he, x, hb, ht⟩ := h
  exact ⟨he, Turned.trans (s' := s') (Step.of_below hb) (fun _ _ _ => .inl rfl) ht⟩
theorem vload_any (h : ArX A s P ps p n cap w) (va vs : Nat) (h1 : va ≤ 4294967296) (h2 : vs ≤ 4294967296) (a k : Int) (ha : a ≤ 9223372036854775807) :
    Calls Tryz.prog 49 #[.agg #[.pointer (some ⟨A, 0, none⟩), .int .i64 (va : Int), .int .i64 (vs : Int)], .int .i64 a, .int .i64 k] w (LoadPost s.mm s.L s.es (addrV va vs a k) k w) :=
  vload_gen _ va vs h1 h2 a k ha w _ _ fun x hx => load_any (h.below hx) _ k (addrV_le h1 h2 a k)
theorem vstore_any (h : ArX A s P ps p n cap w) (va vs : Nat) (h1 : va ≤ 4294967296) (h2 : vs ≤ 4294967296) (a k x : Int) (ha : a ≤ 9223372036854775807) (hx : 0 ≤ x) :
    Calls Tryz.prog 46 #[.agg #[.pointer (some ⟨A, 0, none⟩), .int .i64 (va : Int), .int .i64 (vs : Int)], .int .i64 a, .int .i64 k, .int .u64 x] w (StorePost A P s ps p (addrV va vs a k) k x w) :=
  (vstore_gen _ va vs h1 h2 a ha k x w _ _ (fun X hX => store_any (h.below hX) _ k x (addrV_le h1 h2 a k) hx) (keepsV_ar h _)).mono fun e w' ht => thru_turned ht
end

theorem awake3 (w : World) : Calls Tryz.prog 141 #[] w fun e w' => e = .returned (.bool true) ∧ Below w.heap.size w w' := by
  go_enter Tryz.func141, Tryz.ntmps141
  go_wp2_with fail
  refine (awake3_calls _).mono ?_
  rintro e w1 ⟨rfl, hb⟩
  go_wp2_with fail
  go_ret
  exact ⟨rfl, hb⟩
set_option maxRecDepth 100000 in
set_option maxHeartbeats 1000000 in
theorem awake4_calls (w : World) : Calls Tryz.prog 135 #[] w fun e w' => e = .returned (.bool true) ∧ Below w.heap.size w w' := by
  have L1 : Hid (lenN 1 = 1) := Lib.hid (by decide)
  have E1 : Hid (commitE (newS 1) 0 1 = 0) := Lib.hid (by decide)
  have S1 : Hid (commitS (newS 1) 0 1 = fullS 1 (fun _ => 0)) := Lib.hid (full_new 1 1 (by decide) (by decide) (by decide))
  have T1 : Hid (∀ m, thereE (fullS 1 m).L (fullS 1 m).es 100 8 = 0) := Lib.hid fun m => by show thereE 1 [0, 1] 100 8 = 0; decide
  have N1 : Hid (numE (fullS 1 fun _ => 0).L (fullS 1 fun _ => 0).es 100 8 = 0) := Lib.hid (by show numE 1 [0, 1] 100 8 = 0; decide)
  have S2 : Hid (storeS (fullS 1 fun _ => 0) 100 8 1 = fullS 1 (putM (fun _ => 0) 100 (numB 1 8))) := Lib.hid (by unfold storeS; rw [N1.out, if_pos rfl]; rfl)
  have N2 : Hid (numE 1 [0, 1] 100 1 = 0) := Lib.hid (by decide)
  have V2 : Hid ((numV (putM (fun _ => 0) 100 (numB 1 8)) (100 : Int).toNat (1 : Int).toNat : Int) = 1) := Lib.hid (by decide)
  have A1 : Hid (addrV 100 8 0 8 = 100) := Lib.hid (by decide)
  have A2 : Hid (addrV 100 8 1 8 = -1) := Lib.hid (by decide)
  have N3 : Hid (numE 1 [0, 1] (-1) 8 = 3) := Lib.hid (by decide)
  go_enter Tryz.func135, Tryz.ntmps135
  go_wp2_with fail
  refine (arena_new 1 _).mono ?_
  rintro e w1 ⟨A, P, rfl, hA, hP, hx, hb1⟩
  rw [L1.out] at hx
  have hn0 : ∀ i b : Nat, (List.replicate 1 (none : Option Nat))[i]? = some (some b) → w.heap.size ≤ b := fun i b h => by
    rw [List.getElem?_replicate] at h; split at h <;> cases h
  have HX1 := Lib.hid hx
  clear hx
  go_wp2_with fail
  refine (commit_any HX1.out 0 1 (by omega)).mono ?_
  rintro e w2 ⟨rfl, ht⟩
  rw [E1.out]; rw [S1.out] at ht
  obtain ⟨⟨P2, ps2, p2, n2, c2, hx2, q1, q2, q3⟩, hb2⟩ := ht.at hb1.size hA hP hn0
  have HX2 := Lib.hid hx2
  have HQ2 := Lib.hid (And.intro q1 (And.intro q2 q3))
  have B2 := hb1.trans hb2
  clear hx2 ht q1 q2 q3 hb2 hn0 hA hP HX1
  go_wp2_with fail
  refine (vof_any HX2.out 100 8 (by omega)).mono ?_
  rintro e w3 ⟨rfl, hb3⟩
  rw [T1.out, show ofV (some ⟨A, 0, none⟩) 100 8 0 = .agg #[.pointer (some ⟨A, 0, none⟩), .int .i64 100, .int .i64 8] from rfl]
  have B3 := B2.trans (hb3.mono B2.size)
  obtain ⟨w4, hw4⟩ : ∃ w4, w3.alloc (.cells #[.pointer (some ⟨A, 0, none⟩), .int .i64 100, .int .i64 8] 40) = w4 := ⟨_, rfl⟩
  have HV : VC w3.heap.size (some ⟨A, 0, none⟩) 100 8 w4 := by rw [← hw4]; exact heap_new _ _
  have hb4 : Below w3.heap.size w3 w4 := by rw [← hw4]; exact (Below.refl _ _).alloc (Nat.le_refl _) _
  have HX4 := Lib.hid ((HX2.out.below hb3).below hb4)
  have B4 := B3.trans (hb4.mono B3.size)
  have HW4 := Lib.hid hw4
  obtain ⟨v0, v1, v2, _⟩ := HV.all
  have HVh := Lib.hid HV
  clear hw4 HV hb3 hb4
  obtain ⟨V, hV⟩ : ∃ V, w3.heap.size = V := ⟨_, rfl⟩
  rw [hV] at v0 v1 v2 HVh
  have HVV := Lib.hid hV
  clear hV
  go_wp2_with fail
  rw [HW4.out, HVV.out]
  go_wp2_with fail
  refine (vstore_any HX4.out 100 8 (by omega) (by omega) 0 8 1 (by omega) (by omega)).mono ?_
  rintro e w5 ⟨rfl, ht⟩
  rw [A1.out, N1.out]
  rw [A1.out, S2.out] at ht
  obtain ⟨⟨P5, ps5, p5, n5, c5, hx5, q1, q2, q3⟩, hb5⟩ := ht.at B4.size HQ2.out.1 HQ2.out.2.1 HQ2.out.2.2
  have HX5 := Lib.hid hx5
  have B5 := B4.trans hb5
  have HV5 : VC V (some ⟨A, 0, none⟩) 100 8 w5 := ((keepsV_ar HX4.out _) _ _ _ _ (Below.refl _ _) ht HVh.out).trans HVh.out
  clear hx5 ht q1 q2 q3 hb5 v0 v1 v2
  go_wp2_with fail
  refine (load_any HX5.out 100 1 (by omega)).mono ?_
  rintro e w6 ⟨rfl, hb6⟩
  have N2' : Hid (numE (fullS 1 (putM (fun _ => 0) 100 (numB 1 8))).L (fullS 1 (putM (fun _ => 0) 100 (numB 1 8))).es 100 1 = 0) := N2
  have V2' : Hid ((numV (fullS 1 (putM (fun _ => 0) 100 (numB 1 8))).mm (100 : Int).toNat (1 : Int).toNat : Int) = 1) := V2
  rw [N2'.out, if_pos rfl, V2'.out]
  have HX6 := Lib.hid (HX5.out.below hb6)
  have B6 := B5.trans (hb6.mono B5.size)
  have HV6 := Lib.hid (HV5.below hb6)
  obtain ⟨v0, v1, v2, _⟩ := HV6.out.all
  clear hb6 HV5
  go_wp2_with fail
  refine (vload_any HX6.out 100 8 (by omega) (by omega) 1 8 (by omega)).mono ?_
  rintro e w7 ⟨rfl, hb7⟩
  have N3' : Hid (numE (fullS 1 (putM (fun _ => 0) 100 (numB 1 8))).L (fullS 1 (putM (fun _ => 0) 100 (numB 1 8))).es (addrV 100 8 1 8) 8 = 3) := Lib.hid (by rw [A2.out]; exact N3.out)
  rw [N3'.out, if_neg (by decide)]
  have HX7 := Lib.hid (HX6.out.below hb7)
  have B7 := B6.trans (hb7.mono B6.size)
  have HV7 := Lib.hid (HV6.out.below hb7)
  clear hb7 v0 v1 v2
  go_wp2_with fail
  refine (awake3 _).mono ?_
  rintro e w8 ⟨rfl, hb8⟩
  have HX8 := Lib.hid (HX7.out.below hb8)
  have B8 := B7.trans (hb8.mono B7.size)
  obtain ⟨v0, v1, v2, _⟩ := (HV7.out.below hb8).all
  clear hb8
  go_wp2_with fail
  refine (cap_any HX8.out).mono ?_
  rintro e w9 ⟨rfl, rfl⟩
  have HC1 : ((fullS 1 (putM (fun _ => 0) 100 (numB 1 8))).L : Int) = 1 := rfl
  rw [HC1]
  clear HC1
  go_wp2_with fail
  go_ret
  exact ⟨rfl, B8⟩
end Go.Proofs.YtfemgekhpcgliaaGreat.Bt
/- The contract of Fill: what it returns, and what it turns. -/
namespace Go.Proofs.YtfemgekhpcgliaaGreat.Bt
open Go Go.RowKit Go.Shelf
set_option linter.unusedVariables false
set_option linter.unusedSimpArgs false
attribute [local go_sem] Oper.semAt_some
section
variable {A P n cap : Nat} {s : ASt} {ps : List (Option Nat)} {p : Option Addr} {w : World}
def fillS (s : ASt) (a k : Int) (y : UInt8) : ASt := if thereE s.L s.es a k = 0 then { s with mm := putM s.mm a.toNat (List.replicate k.toNat y) } else s
def FillPost (A P : Nat) (s : ASt) (ps : List (Option Nat)) (p : Option Addr) (a k : Int) (y : UInt8) (w : World) (e : Ending) (w' : World) : Prop :=
  e = .returned (.int .i64 (thereE s.L s.es a k)) ∧ Turned A P ps p (fillS s a k y) w w'
set_option maxRecDepth 100000 in
set_option maxHeartbeats 4000000 in
theorem fill_yes (h : ArX A s P ps p n cap w) (a : Nat) (N : Nat) (y : UInt8) (hn : thereE s.L s.es a N = 0) :
    CallsIn Fence.wide 4 Tryz.prog 133 #[.pointer (some ⟨A, 0, none⟩), .int .i64 a, .int .i64 N, .int .u8 (y.toNat : Int)] w (FillPost A P s ps p a N y w) := by
  have ht : thereB s.L s.es a N = true := by
    unfold thereE at hn
    cases hq : thereB s.L s.es a N with
    | true => rfl
    | false => rw [hq] at hn; cases hn
  obtain ⟨t0, t1, t2, t3⟩ := (there_iff h.good a N).1 ht
  have HM : Hid (∀ i : Int, a ≤ i → i < a + N → mem s.es (i / 4096) = true) := Lib.hid t3
  have hsm := h.good.small
  have hk32 : N ≤ 4294967296 := by omega
  have ha32 : a ≤ 4294967296 := by omega
  have HNU := Lib.hid hn
  have HX := Lib.hid h
  have hltA := h.ltA
  clear t3 hn ht h
  refine callsIn_of_wp_marks Tryz.func133 rfl trivial ?_ rfl
  simp only [Tryz.ntmps133, List.size_toArray, List.length_cons, List.length_nil, Nat.reduceAdd, Nat.reduceSub, Array.replicate_succ, Array.replicate_zero, List.push_toArray, List.append_toArray, List.nil_append, List.cons_append]
  gi_wp2_with fail
  obtain ⟨w0, hw0⟩ : ∃ w0, (w.alloc (.cells #[.pointer (some ⟨A, 0, none⟩)] 24)).alloc (.cells #[.int .u8 (y.toNat : Int)] 5) = w0 := ⟨_, rfl⟩
  have B0 : Below w.heap.size w w0 := by rw [← hw0]; exact ((Below.refl w.heap.size w).alloc (Nat.le_refl _) _).alloc (by simp) _
  have hs0 : w0.heap.size = w.heap.size + 2 := by rw [← hw0]; simp
  have hbA : w0.heap[w.heap.size]? = some (.cells #[.pointer (some ⟨A, 0, none⟩)] 24 (0, 0)) := by
    rw [← hw0, Below.heap_alloc _ _ _ (by simp)]; exact heap_new _ _
  have hbX : w0.heap[w.heap.size + 1]? = some (.cells #[.int .u8 (y.toNat : Int)] 5 (0, 0)) := by
    rw [← hw0]; have := heap_new (w.alloc (.cells #[.pointer (some ⟨A, 0, none⟩)] 24)) (.cells #[.int .u8 (y.toNat : Int)] 5); simpa using this
  rw [hw0]
  clear hw0
  refine ⟨trivial, (callsIn_wide.2 (there_any (HX.out.below B0) a N (by omega))).mono ?_⟩
  rintro e w1 ⟨rfl, hb1⟩
  rw [HNU.out]
  have B1 : Below w.heap.size w w1 := B0.trans (hb1.mono (by omega))
  have hs1 : w.heap.size + 2 ≤ w1.heap.size := by have := hb1.size; omega
  have gbA := (hb1.block _ (by omega)).trans hbA
  have gbX := (hb1.block _ (by omega)).trans hbX
  have c0 : w1.cell? ⟨w.heap.size, 0, none⟩ = some (.pointer (some ⟨A, 0, none⟩)) := (cell_blk gbA 0).1
  have cx : w1.cell? ⟨w.heap.size + 1, 0, none⟩ = some (.int .u8 (y.toNat : Int)) := (cell_blk gbX 0).1
  clear hb1 hbA hbX hs0
  gi_wp2_with (refine ⟨trivial, ?_⟩; gi_at_call 84; refine (callsIn_wide.2 (pieces_fn a N _)).mono ?_; rintro e w' ⟨rfl, rfl⟩)
  obtain ⟨w2, hw2⟩ : ∃ w2, (w1.alloc (.cells #[.int .i64 (a : Int)] 3)).alloc (.cells #[.int .i64 (N : Int)] 3) = w2 := ⟨_, rfl⟩
  have hsz : w2.heap.size = w1.heap.size + 2 := by rw [← hw2]; simp
  have hB2 : Below w1.heap.size w1 w2 := by rw [← hw2]; exact ((Below.refl _ w1).alloc (Nat.le_refl _) _).alloc (by simp) _
  have gBa : w2.heap[w1.heap.size]? = some (.cells #[.int .i64 (a : Int)] 3 (0, 0)) := by
    rw [← hw2, Below.heap_alloc _ _ _ (by simp)]; exact heap_new _ _
  have gBn : w2.heap[w1.heap.size + 1]? = some (.cells #[.int .i64 (N : Int)] 3 (0, 0)) := by
    rw [← hw2]; have := heap_new (w1.alloc (.cells #[.int .i64 (a : Int)] 3)) (.cells #[.int .i64 (N : Int)] 3); simpa using this
  have fbA := (hB2.block _ (by omega)).trans gbA
  have fbX := (hB2.block _ (by omega)).trans gbX
  have BW2 : Below w.heap.size w w2 := B1.trans (hB2.mono B1.size)
  rw [hw2]
  clear hw2 c0 cx gbA gbX
  refine wpIn_rangeFunc_ownH rfl (by omega) (gf := 122) (lb := #[.pointer (some ⟨w1.heap.size + 1, 0, none⟩), .pointer (some ⟨w1.heap.size, 0, none⟩)]) rfl trivial (enters_of Tryz.func122 (by kernel_rfl) rfl)
    (pieces_stops (4 - 1) (w1.heap.size + 1) w1.heap.size a N hk32 ha32 w2 (by omega) (by omega) (cell_blk gBn 0).1 (cell_blk gBa 0).1) K2.trans (K2.put (by omega) (by omega)) (Below.refl _ _) (fun _ => rfl)
    (fun pre W => ((∃ ps', ArX A { s with mm := covM s.mm (List.replicate N y) pre } P ps' p n cap W ∧ Step A P ps ps' w W) ∧ (W.heap[w.heap.size]? = some (.cells #[.pointer (some ⟨A, 0, none⟩)] 24 (0, 0)) ∧ W.heap[w.heap.size + 1]? = some (.cells #[.int .u8 (y.toNat : Int)] 5 (0, 0)) ∧ W.heap[w1.heap.size]? = some (.cells #[.int .i64 (a : Int)] 3 (0, 0)) ∧ W.heap[w1.heap.size + 1]? = some (.cells #[.int .i64 (N : Int)] 3 (0, 0)))) ∧ w2.heap.size ≤ W.heap.size)
    (fun _ _ _ => False)
    (OwnFrom.and (OwnFrom.and (fun pre X Y row hs hg hr => by
        obtain ⟨ps', h1, h2⟩ := hs
        exact ⟨ps', h1.grown hg (fun r e => (hr r e).2), h2.grown hg (fun r e => Nat.le_trans BW2.size (hr r e).1)⟩)
      (fun pre X Y row hs hg hr => ⟨(grownBy_keeps_cells hg (fun r e => (hr r e).2) hs.1 rfl).trans hs.1, (grownBy_keeps_cells hg (fun r e => (hr r e).2) hs.2.1 rfl).trans hs.2.1, (grownBy_keeps_cells hg (fun r e => (hr r e).2) hs.2.2.1 rfl).trans hs.2.2.1, (grownBy_keeps_cells hg (fun r e => (hr r e).2) hs.2.2.2 rfl).trans hs.2.2.2⟩))
      (fun pre X Y row hs hg hr => Nat.le_trans hs hg.size))
    (fun _ _ _ _ _ hs _ _ => hs)
    ⟨⟨⟨ps, by rw [covM_nil]; exact HX.out.below BW2, Step.of_below BW2⟩, fbA, fbX, gBa, gBn⟩, Nat.le_refl _⟩
    (fun x a' W => ∃ V, w2.heap.size ≤ V ∧ a' = { tmps := #[.pointer (some ⟨A, 0, none⟩), .int .i64 a, .int .i64 N, .int .u8 (y.toNat : Int), .pointer (some ⟨w.heap.size, 0, none⟩), undef, undef, .pointer (some ⟨w.heap.size + 1, 0, none⟩), .int .i64 0, .int .i64 0, undef, .pointer (some ⟨V, 0, none⟩), undef, undef, .pointer (some ⟨A, 0, none⟩), .int .i64 a, .int .i64 N, .int .i64 0, .int .i64 0, .bool false, undef, .int .i64 a, .int .i64 N, .func (.func 122) #[] #[.pointer (some ⟨w1.heap.size + 1, 0, none⟩), .pointer (some ⟨w1.heap.size, 0, none⟩)], .int .i64 (x.1.1 : Int), .agg #[.int .i64 (((a + x.1.1) / 4096 : Nat) : Int), .int .i64 (((a + x.1.1) % 4096 : Nat) : Int), .int .i64 (((a + x.1.1) % 4096 + x.1.2 : Nat) : Int)], undef, undef, undef, undef, undef, undef, undef, undef, undef, undef, undef, undef, undef, undef, undef, undef, undef, undef, undef, undef, undef, undef, undef, undef, undef, undef, undef, undef, undef, undef, undef, undef, undef], defers := [] } ∧ W.heap[V]? = some (.cells #[.int .i64 (((a + x.1.1) / 4096 : Nat) : Int), .int .i64 (((a + x.1.1) % 4096 : Nat) : Int), .int .i64 (((a + x.1.1) % 4096 + x.1.2 : Nat) : Int)] 125 (0, 0)))
    (fun x a' _ X Y row hs hg hr => by
      obtain ⟨V, h1, h2, h3⟩ := hs
      exact ⟨V, h1, h2, (grownBy_keeps_cells hg (fun r e => (hr r e).2) h3 rfl).trans h3⟩)
    ?assign ?body ?done ?stop
  case assign =>
    intro l pre x W K hI hK
    simp only [encPc]
    generalize (a + x.1.1) % 4096 + x.1.2 = g3 at *
    generalize (a + x.1.1) / 4096 = g1 at *
    generalize (a + x.1.1) % 4096 = g2 at *
    obtain ⟨⟨⟨ps', i1, i2⟩, iA, iX, ia, ik⟩, iS⟩ := hI
    have IA := Lib.hid iA; have IX := Lib.hid iX; have Ia := Lib.hid ia; have Ik := Lib.hid ik
    clear iA iX ia ik
    gi_wp2
    exact hK _ _ ((KeepsOthers.alloc _ _).from _) ⟨Below.heap_alloc _ _ _ (by omega), Below.heap_alloc _ _ _ (by omega)⟩
      ⟨⟨⟨ps', i1.below ((Below.refl _ _).alloc (Nat.le_refl _) _), i2.trans (Step.of_below ((Below.refl _ _).alloc (Nat.le_refl _) _))⟩, (Below.heap_alloc _ _ _ (by omega)).trans IA.out, (Below.heap_alloc _ _ _ (by omega)).trans IX.out, (Below.heap_alloc _ _ _ (by omega)).trans Ia.out, (Below.heap_alloc _ _ _ (by omega)).trans Ik.out⟩, by simp; omega⟩
      ⟨W.heap.size, iS, rfl, heap_new _ _⟩
  case body =>
    rintro l pre x a' W hl hlr ⟨⟨⟨ps', hxA, hst⟩, iA, iX, ia, ik⟩, iS⟩ ⟨V, hV, rfl, hcV⟩ hlen
    obtain ⟨hx0, hx1, hx2⟩ := x.2
    have hVlt : V < W.heap.size := (Array.getElem?_eq_some_iff.1 hcV).1
    have hi : (a + x.1.1) / 4096 < s.L := by omega
    have hm' : mem s.es (((a + x.1.1) / 4096 : Nat) : Int) = true := by
      have := HM.out ((a + x.1.1 : Nat) : Int) (by omega) (by omega)
      rw [show ((((a + x.1.1) / 4096 : Nat)) : Int) = ((a + x.1.1 : Nat) : Int) / 4096 from by omega]; exact this
    obtain ⟨d, hd⟩ : ∃ d, x.1.1 = d := ⟨_, rfl⟩
    obtain ⟨m, hm⟩ : ∃ m, x.1.2 = m := ⟨_, rfl⟩
    obtain ⟨g1, hg1⟩ : ∃ g1, (a + d) / 4096 = g1 := ⟨_, rfl⟩
    obtain ⟨g2, hg2⟩ : ∃ g2, (a + d) % 4096 = g2 := ⟨_, rfl⟩
    simp only [hd, hm] at hx0 hx1 hx2 hi hm' hcV ⊢
    simp only [hg1, hg2] at hx2 hi hm' hcV ⊢
    have HD := Lib.hid hd; have HMm := Lib.hid hm; have HG1 := Lib.hid hg1; have HG2 := Lib.hid hg2
    clear hd hm hg1 hg2
    have IA := Lib.hid iA; have IX := Lib.hid iX; have Ia := Lib.hid ia; have Ik := Lib.hid ik; have HCV := Lib.hid hcV
    have HXA := Lib.hid hxA
    have cA : W.cell? ⟨w.heap.size, 0, none⟩ = some (.pointer (some ⟨A, 0, none⟩)) := (cell_blk iA 0).1
    have cX : W.cell? ⟨w.heap.size + 1, 0, none⟩ = some (.int .u8 (y.toNat : Int)) := (cell_blk iX 0).1
    have v0 : W.cell? ⟨V, 0, none⟩ = some (.int .i64 (g1 : Int)) := (cell_blk hcV 0).1
    have c2 : W.cell? ⟨A, 2, none⟩ = some (.slice (some ⟨P, 0, none⟩) s.L s.L) := hxA.head.2.2.1
    have hil : g1 < ps'.length := by rw [hxA.len]; exact hi
    clear iA iX ia ik hcV hxA
    obtain ⟨yv, hyv⟩ : ∃ yv, (y.toNat : Int) = yv := ⟨_, rfl⟩
    rw [hyv] at cX ⊢
    have HYV := Lib.hid hyv
    have HW : (yv = 0 ∧ ps'[g1]? = some none) ∨ (yv = 0 ∧ ∃ b, ps'[g1]? = some (some b)) ∨ ¬ yv = 0 := by
      by_cases hy : yv = 0
      · cases hq : ps'[g1]? with
        | none => rw [List.getElem?_eq_none_iff] at hq; omega
        | some q => cases q with
          | none => exact .inl ⟨hy, rfl⟩
          | some b => exact .inr (.inl ⟨hy, b, rfl⟩)
      · exact .inr (.inr hy)
    clear hyv
    rcases HW with ⟨rfl, hq⟩ | HB
    · have hsl := HXA.out.slot hq
      simp only [ptrV] at hsl
      have HQ := Lib.hid hq; clear hq
      gi_wp2_with fail
      refine round_still_tail 12 (by kernel_rfl) (by kernel_rfl) (by kernel_rfl) ?_
      simp only [List.take_succ_cons, List.take_zero, List.drop_succ_cons, List.drop_zero]
      iterate 12 still_step
      refine wpStill_nil ?_
      gi_wp2_with fail
      have hsame : covM s.mm (List.replicate N y) (pre ++ [x]) = covM s.mm (List.replicate N y) pre := by
        funext k
        rw [covM_snoc]
        split
        · rename_i hk
          have hD := HD.out; have hMm := HMm.out; have hG1 := HG1.out; have hG2 := HG2.out
          rw [hD, hMm] at hk
          have hz := HXA.out.no g1 HQ.out (k - g1 * 4096) (by omega)
          rw [show g1 * 4096 + (k - g1 * 4096) = k from by omega] at hz
          have hz' : covM s.mm (List.replicate N y) pre k = 0 := hz
          rw [hz']
          have hy0 : y = 0 := by
            have := HYV.out
            exact UInt8.toNat_inj.1 (by rw [show (0 : UInt8).toNat = 0 from rfl]; omega)
          rw [hy0, List.getD_eq_getElem?_getD, List.getElem?_replicate, if_pos (by omega)]; rfl
        · rfl
      exact ⟨(KeepsOthers.drew _).from _, K2.drew _, ⟨⟨ps', by rw [hsame]; exact HXA.out.below (Below.refl _ _).drew, hst.trans (Step.of_below (Below.refl _ _).drew)⟩, IA.out, (by have h := IX.out; rw [HYV.out] at h; exact h), Ia.out, Ik.out⟩, iS⟩
    rcases HB with ⟨rfl, b0, hq⟩ | hy0
    have hsl := HXA.out.slot hq
    simp only [ptrV] at hsl
    clear hq
    gi_wp2_with fail
    refine round_still_tail 12 (by kernel_rfl) (by kernel_rfl) (by kernel_rfl) ?_
    simp only [List.take_succ_cons, List.take_zero, List.drop_succ_cons, List.drop_zero]
    iterate 12 still_step
    refine wpStill_nil ?_
    gi_wp2_with fail
    rotate_left
    have hy1 : (yv == 0) = false := by simpa using hy0
    clear hy0
    gi_wp2_with fail
    have hS9 : (fun X : World => X.cell? ⟨w.heap.size + 1, 0, none⟩ = some (.int .u8 yv)) W.drew := cX
    refine round_held (fun X : World => X.cell? ⟨w.heap.size + 1, 0, none⟩ = some (.int .u8 yv)) (by kernel_rfl) (by kernel_rfl) (fun ⟨_, _, h⟩ => h) ?_
    refine wpAnyH_take (i := 0) (v := .int .u8 yv) rfl (by kernel_rfl) (by kernel_rfl) (by kernel_rfl) (fun _ _ _ h => h) (Or.inl ⟨by rfl, fun X hS => ?_⟩) hS9 ?_
    · go_simp
    simp only [Act.put, List.getElem_toArray, List.getElem_cons_zero, List.getElem_cons_succ, List.setIfInBounds_toArray, List.set_cons_zero, List.set_cons_succ]
    refine wpAnyH_take (i := 1) (v := .bool false) rfl (by kernel_rfl) (by kernel_rfl) (by kernel_rfl) (fun _ _ _ h => h) (Or.inl ⟨by rfl, fun X hS => ?_⟩) hS9 ?_
    · go_simp
    simp only [Act.put, List.getElem_toArray, List.getElem_cons_zero, List.getElem_cons_succ, List.setIfInBounds_toArray, List.set_cons_zero, List.set_cons_succ]
    refine wpAnyH_take (i := 2) (v := .bool false) rfl (by kernel_rfl) (by kernel_rfl) (by kernel_rfl) (fun _ _ _ h => h) (Or.inl ⟨by rfl, fun X hS => ?_⟩) hS9 ?_
    · go_simp
    simp only [Act.put, List.getElem_toArray, List.getElem_cons_zero, List.getElem_cons_succ, List.setIfInBounds_toArray, List.set_cons_zero, List.set_cons_succ]
    refine wpAnyH_take (i := 3) (v := undef) rfl (by kernel_rfl) (by kernel_rfl) (by kernel_rfl) (fun _ _ _ h => h) (Or.inr ⟨by rfl, rfl⟩) hS9 ?_
    simp only [Act.put, List.getElem_toArray, List.getElem_cons_zero, List.getElem_cons_succ, List.setIfInBounds_toArray, List.set_cons_zero, List.set_cons_succ]
    refine wpAnyH_take (i := 4) (v := undef) rfl (by kernel_rfl) (by kernel_rfl) (by kernel_rfl) (fun _ _ _ h => h) (Or.inr ⟨by rfl, rfl⟩) hS9 ?_
    simp only [Act.put, List.getElem_toArray, List.getElem_cons_zero, List.getElem_cons_succ, List.setIfInBounds_toArray, List.set_cons_zero, List.set_cons_succ]
    refine wpAnyH_take (i := 5) (v := undef) rfl (by kernel_rfl) (by kernel_rfl) (by kernel_rfl) (fun _ _ _ h => h) (Or.inr ⟨by rfl, rfl⟩) hS9 ?_
    simp only [Act.put, List.getElem_toArray, List.getElem_cons_zero, List.getElem_cons_succ, List.setIfInBounds_toArray, List.set_cons_zero, List.set_cons_succ]
    refine wpAnyH_take (i := 6) (v := undef) rfl (by kernel_rfl) (by kernel_rfl) (by kernel_rfl) (fun _ _ _ h => h) (Or.inr ⟨by rfl, rfl⟩) hS9 ?_
    simp only [Act.put, List.getElem_toArray, List.getElem_cons_zero, List.getElem_cons_succ, List.setIfInBounds_toArray, List.set_cons_zero, List.set_cons_succ]
    refine wpAnyH_take (i := 7) (v := undef) rfl (by kernel_rfl) (by kernel_rfl) (by kernel_rfl) (fun _ _ _ h => h) (Or.inr ⟨by rfl, rfl⟩) hS9 ?_
    simp only [Act.put, List.getElem_toArray, List.getElem_cons_zero, List.getElem_cons_succ, List.setIfInBounds_toArray, List.set_cons_zero, List.set_cons_succ]
    refine wpAnyH_take (i := 8) (v := undef) rfl (by kernel_rfl) (by kernel_rfl) (by kernel_rfl) (fun _ _ _ h => h) (Or.inr ⟨by rfl, rfl⟩) hS9 ?_
    simp only [Act.put, List.getElem_toArray, List.getElem_cons_zero, List.getElem_cons_succ, List.setIfInBounds_toArray, List.set_cons_zero, List.set_cons_succ]
    refine wpAnyH_take (i := 9) (v := undef) rfl (by kernel_rfl) (by kernel_rfl) (by kernel_rfl) (fun _ _ _ h => h) (Or.inr ⟨by rfl, rfl⟩) hS9 ?_
    simp only [Act.put, List.getElem_toArray, List.getElem_cons_zero, List.getElem_cons_succ, List.setIfInBounds_toArray, List.set_cons_zero, List.set_cons_succ]
    refine wpAnyH_take (i := 10) (v := undef) rfl (by kernel_rfl) (by kernel_rfl) (by kernel_rfl) (fun _ _ _ h => h) (Or.inr ⟨by rfl, rfl⟩) hS9 ?_
    simp only [Act.put, List.getElem_toArray, List.getElem_cons_zero, List.getElem_cons_succ, List.setIfInBounds_toArray, List.set_cons_zero, List.set_cons_succ]
    refine wpAnyH_take (i := 11) (v := undef) rfl (by kernel_rfl) (by kernel_rfl) (by kernel_rfl) (fun _ _ _ h => h) (Or.inr ⟨by rfl, rfl⟩) hS9 ?_
    simp only [Act.put, List.getElem_toArray, List.getElem_cons_zero, List.getElem_cons_succ, List.setIfInBounds_toArray, List.set_cons_zero, List.set_cons_succ]
    refine wpAnyH_take (i := 12) (v := .bool false) rfl (by kernel_rfl) (by kernel_rfl) (by kernel_rfl) (fun _ _ _ h => h) (Or.inl ⟨by rfl, fun X hS => ?_⟩) hS9 ?_
    · go_simp
    simp only [Act.put, List.getElem_toArray, List.getElem_cons_zero, List.getElem_cons_succ, List.setIfInBounds_toArray, List.set_cons_zero, List.set_cons_succ]
    refine wpAnyH_done (by kernel_rfl) ?_ _
    clear hS9
    gi_wp2_with fail
    all_goals
      have HSP := fun b => slice_page b g2 m hx0 hx2
      have hS0 : (fun X : World => X.cell? ⟨w.heap.size, 0, none⟩ = some (.pointer (some ⟨A, 0, none⟩)) ∧ X.cell? ⟨V, 0, none⟩ = some (.int .i64 (g1 : Int)) ∧ X.cell? ⟨V, 1, none⟩ = some (.int .i64 (g2 : Int)) ∧ X.cell? ⟨V, 2, none⟩ = some (.int .i64 ((g2 + m : Nat) : Int))) W.drew.drew :=
        ⟨(cell_blk (w := W.drew.drew) IA.out 0).1, (cell_blk (w := W.drew.drew) HCV.out 0).1, (cell_blk (w := W.drew.drew) HCV.out 1).1, (cell_blk (w := W.drew.drew) HCV.out 2).1⟩
      refine round_held (fun X : World => X.cell? ⟨w.heap.size, 0, none⟩ = some (.pointer (some ⟨A, 0, none⟩)) ∧ X.cell? ⟨V, 0, none⟩ = some (.int .i64 (g1 : Int)) ∧ X.cell? ⟨V, 1, none⟩ = some (.int .i64 (g2 : Int)) ∧ X.cell? ⟨V, 2, none⟩ = some (.int .i64 ((g2 + m : Nat) : Int))) (by kernel_rfl) (by kernel_rfl) (fun ⟨_, _, h⟩ => h) ?_
      refine wpAnyH_take (i := 0) (v := .pointer (some ⟨A, 0, none⟩)) rfl (by kernel_rfl) (by kernel_rfl) (by kernel_rfl) (fun _ _ _ h => h) (Or.inl ⟨by rfl, fun X hS => ?_⟩) hS0 ?_
      · obtain ⟨s1, s2, s3, s4⟩ := hS
        go_simp
      simp only [Act.put, List.getElem_toArray, List.getElem_cons_zero, List.getElem_cons_succ, List.setIfInBounds_toArray, List.set_cons_zero, List.set_cons_succ]
      refine wpAnyH_take (i := 1) (v := .pointer (some ⟨V, 0, none⟩)) rfl (by kernel_rfl) (by kernel_rfl) (by kernel_rfl) (fun _ _ _ h => h) (Or.inl ⟨by rfl, fun X hS => ?_⟩) hS0 ?_
      · obtain ⟨s1, s2, s3, s4⟩ := hS
        go_simp
      simp only [Act.put, List.getElem_toArray, List.getElem_cons_zero, List.getElem_cons_succ, List.setIfInBounds_toArray, List.set_cons_zero, List.set_cons_succ]
      refine wpAnyH_take (i := 2) (v := .int .i64 (g1 : Int)) rfl (by kernel_rfl) (by kernel_rfl) (by kernel_rfl) (fun _ _ _ h => h) (Or.inl ⟨by rfl, fun X hS => ?_⟩) hS0 ?_
      · obtain ⟨s1, s2, s3, s4⟩ := hS
        go_simp
      simp only [Act.put, List.getElem_toArray, List.getElem_cons_zero, List.getElem_cons_succ, List.setIfInBounds_toArray, List.set_cons_zero, List.set_cons_succ]
      refine wpAnyH_take (i := 5) (v := .pointer (some ⟨V, 1, none⟩)) rfl (by kernel_rfl) (by kernel_rfl) (by kernel_rfl) (fun _ _ _ h => h) (Or.inl ⟨by rfl, fun X hS => ?_⟩) hS0 ?_
      · obtain ⟨s1, s2, s3, s4⟩ := hS
        go_simp
      simp only [Act.put, List.getElem_toArray, List.getElem_cons_zero, List.getElem_cons_succ, List.setIfInBounds_toArray, List.set_cons_zero, List.set_cons_succ]
      refine wpAnyH_take (i := 6) (v := .int .i64 (g2 : Int)) rfl (by kernel_rfl) (by kernel_rfl) (by kernel_rfl) (fun _ _ _ h => h) (Or.inl ⟨by rfl, fun X hS => ?_⟩) hS0 ?_
      · obtain ⟨s1, s2, s3, s4⟩ := hS
        go_simp
      simp only [Act.put, List.getElem_toArray, List.getElem_cons_zero, List.getElem_cons_succ, List.setIfInBounds_toArray, List.set_cons_zero, List.set_cons_succ]
      refine wpAnyH_take (i := 7) (v := .pointer (some ⟨V, 2, none⟩)) rfl (by kernel_rfl) (by kernel_rfl) (by kernel_rfl) (fun _ _ _ h => h) (Or.inl ⟨by rfl, fun X hS => ?_⟩) hS0 ?_
      · obtain ⟨s1, s2, s3, s4⟩ := hS
        go_simp
      simp only [Act.put, List.getElem_toArray, List.getElem_cons_zero, List.getElem_cons_succ, List.setIfInBounds_toArray, List.set_cons_zero, List.set_cons_succ]
      refine wpAnyH_take (i := 8) (v := .int .i64 ((g2 + m : Nat) : Int)) rfl (by kernel_rfl) (by kernel_rfl) (by kernel_rfl) (fun _ _ _ h => h) (Or.inl ⟨by rfl, fun X hS => ?_⟩) hS0 ?_
      · obtain ⟨s1, s2, s3, s4⟩ := hS
        go_simp
      simp only [Act.put, List.getElem_toArray, List.getElem_cons_zero, List.getElem_cons_succ, List.setIfInBounds_toArray, List.set_cons_zero, List.set_cons_succ]
      refine wpAnyH_ready (rs := [3]) (by kernel_rfl) (by simp) (AllReadyH.cons rfl (fun K1 hK1 => ?_) AllReadyH.nil)
      go_simp
      refine (laid_page (HXA.out.below (show Below W.heap.size W W.drew.drew from (Below.refl _ _).drew.drew)) g1 hi hm').mono ?_
      rintro e W2 ⟨b, ps2, rfl, hpb, hx2', hs2⟩
      have hxd := HXA.out.below (show Below W.heap.size W W.drew.drew from (Below.refl _ _).drew.drew)
      have hltW : ∀ k, k < w2.heap.size → k < W.drew.drew.heap.size := fun k hk => Nat.lt_of_lt_of_le hk iS
      have JA := Lib.hid ((hs2.block _ (hltW _ (by omega)) (own_not hxd (k := w.heap.size) IA.out (by decide) (by decide) (by decide))).trans IA.out)
      have JX := Lib.hid ((hs2.block _ (hltW _ (by omega)) (own_not hxd (k := w.heap.size + 1) IX.out (by decide) (by decide) (by decide))).trans IX.out)
      have Ja := Lib.hid ((hs2.block _ (hltW _ (by omega)) (own_not hxd (k := w1.heap.size) Ia.out (by decide) (by decide) (by decide))).trans Ia.out)
      have Jk := Lib.hid ((hs2.block _ (hltW _ (by omega)) (own_not hxd (k := w1.heap.size + 1) Ik.out (by decide) (by decide) (by decide))).trans Ik.out)
      have JV := Lib.hid ((hs2.block V hVlt (own_not hxd (k := V) HCV.out (by decide) (by decide) (by decide))).trans HCV.out)
      have hS1 : (fun X : World => X.cell? ⟨w.heap.size, 0, none⟩ = some (.pointer (some ⟨A, 0, none⟩)) ∧ X.cell? ⟨V, 0, none⟩ = some (.int .i64 (g1 : Int)) ∧ X.cell? ⟨V, 1, none⟩ = some (.int .i64 (g2 : Int)) ∧ X.cell? ⟨V, 2, none⟩ = some (.int .i64 ((g2 + m : Nat) : Int))) W2 :=
        ⟨(cell_blk JA.out 0).1, (cell_blk JV.out 0).1, (cell_blk JV.out 1).1, (cell_blk JV.out 2).1⟩
      have HPB := Lib.hid hpb; have HX2 := Lib.hid hx2'; have HS2 := Lib.hid hs2
      clear hpb hx2' hs2 hxd hltW
      refine hK1.out _ _ hS1 (fun _ => ?_)
      clear hK1
      try simp only [Act.put, List.getElem_toArray, List.getElem_cons_zero, List.getElem_cons_succ, List.setIfInBounds_toArray, List.set_cons_zero, List.set_cons_succ]
      refine wpAnyH_take (i := 4) (v := .pointer (some ⟨b, 0, none⟩)) rfl (by kernel_rfl) (by kernel_rfl) (by kernel_rfl) (fun _ _ _ h => h) (Or.inl ⟨by rfl, fun X hS => ?_⟩) hS1 ?_
      · obtain ⟨s1, s2, s3, s4⟩ := hS
        go_simp
      simp only [Act.put, List.getElem_toArray, List.getElem_cons_zero, List.getElem_cons_succ, List.setIfInBounds_toArray, List.set_cons_zero, List.set_cons_succ]
      have HSPb := HSP b
      clear HSP
      refine wpAnyH_take (i := 9) (v := .slice (some ⟨b, g2, none⟩) m (4096 - g2)) rfl (by kernel_rfl) (by kernel_rfl) (by kernel_rfl) (fun _ _ _ h => h) (Or.inl ⟨by rfl, fun X hS => ?_⟩) hS1 ?_
      · obtain ⟨s1, s2, s3, s4⟩ := hS
        go_simp
      simp only [Act.put, List.getElem_toArray, List.getElem_cons_zero, List.getElem_cons_succ, List.setIfInBounds_toArray, List.set_cons_zero, List.set_cons_succ]
      refine wpAnyH_take (i := 10) (v := .slice (some ⟨b, g2, none⟩) m (4096 - g2)) rfl (by kernel_rfl) (by kernel_rfl) (by kernel_rfl) (fun _ _ _ h => h) (Or.inl ⟨by rfl, fun X hS => ?_⟩) hS1 ?_
      · obtain ⟨s1, s2, s3, s4⟩ := hS
        go_simp
      simp only [Act.put, List.getElem_toArray, List.getElem_cons_zero, List.getElem_cons_succ, List.setIfInBounds_toArray, List.set_cons_zero, List.set_cons_succ]
      refine wpAnyH_done (by kernel_rfl) ?_ _
      clear hS0 hS1
      gi_wp2_with fail
      gi_loopw [51] (fun i wr => ∃ j : Nat, j ≤ m ∧ i = .int .i64 j ∧ ArX A { s with mm := putM (covM s.mm (List.replicate N y) pre) (a + d) (List.replicate j y) } P ps2 p n cap wr ∧ Step A P ps2 ps2 W2 wr) (fun i _ => m - (intOf i).toNat)
      case atStart => exact ⟨0, Nat.zero_le _, rfl, by rw [show List.replicate 0 y = [] from rfl, putM_nil]; exact HX2.out, Step.of_below (Below.refl _ _)⟩
      case round =>
        obtain ⟨j, hj, rfl, hxj, hsj⟩ := hrel
        have hnX := own_not HX2.out JX.out (by decide) (by decide) (by decide)
        have gX := (hsj.block _ (Array.getElem?_eq_some_iff.1 JX.out).1 hnX).trans JX.out
        have cXr := (cell_blk gX 0).1
        rw [HYV.out] at cXr
        by_cases hlt : j < m
        · have q9 : g2 + j < 4096 := by omega
          have hby := hxj.byte HPB.out q9
          have hfr := (cell_blk (hxj.pg _ b HPB.out) (g2 + j)).2
          have HSB := Lib.hid (hxj.setByte HPB.out q9 y)
          have HSJ := Lib.hid hsj
          clear hxj hsj gX hnX
          gi_wp2_with fail
          have e : putM (covM s.mm (List.replicate N y) pre) (a + d) (List.replicate (j + 1) y) = fun k => if k = g1 * 4096 + (g2 + j) then y else putM (covM s.mm (List.replicate N y) pre) (a + d) (List.replicate j y) k := by
            have h1 := HG1.out; have h2 := HG2.out
            rw [List.replicate_succ', putM_snoc, List.length_replicate, show a + d + j = g1 * 4096 + (g2 + j) from by omega]
          refine ⟨⟨j + 1, by omega, by go_num, ?_, ?_⟩, by simp [intOf]; omega⟩
          · rw [e]
            have h := HSB.out.1
            rw [HYV.out] at h
            exact h
          · have h := HSJ.out.trans HSB.out.2
            rw [HYV.out] at h
            exact h
        · have hje : j = m := by omega
          subst hje
          have HXJ := Lib.hid hxj
          have HSJ := Lib.hid hsj
          clear hxj hsj gX hnX cXr
          gi_wp2_with fail
          have hcov : putM (covM s.mm (List.replicate N y) pre) (a + d) (List.replicate j y) = covM s.mm (List.replicate N y) (pre ++ [x]) := by
            have h1 := HD.out; have h2 := HMm.out
            funext k
            rw [covM_snoc, h1, h2]
            unfold putM
            rw [List.length_replicate]
            by_cases c : a + d ≤ k ∧ k < a + d + j
            · rw [if_pos c, if_pos c, List.getD_eq_getElem?_getD, List.getD_eq_getElem?_getD, List.getElem?_replicate, List.getElem?_replicate, if_pos (by omega), if_pos (by omega)]
            · rw [if_neg c, if_neg c]
          have hWD : Step A P ps' ps2 W W2 := (Step.of_below (show Below W.heap.size W W.drew.drew from (Below.refl _ _).drew.drew)).trans HS2.out
          have hBK := fun (k : Nat) (c : Array Value) (T : TypeId) (hk : W2.heap[k]? = some (.cells c T (0, 0))) (h1 : T ≠ 86) (h2 : T ≠ 96) (h3 : T ≠ 98) => (HSJ.out.block k (Array.getElem?_eq_some_iff.1 hk).1 (own_not HX2.out hk h1 h2 h3)).trans hk
          have hfin := HXJ.out
          rw [hcov] at hfin
          refine ⟨((Step.others HXA.out hWD).trans (Step.others HX2.out HSJ.out)).from _, ⟨?_, ?_⟩, ⟨⟨ps2, hfin, (hst.trans hWD).trans HSJ.out⟩, ?_, ?_, ?_, ?_⟩, ?_⟩
          · exact (hBK _ _ _ Jk.out (by decide) (by decide) (by decide)).trans Ik.out.symm
          · exact (hBK _ _ _ Ja.out (by decide) (by decide) (by decide)).trans Ia.out.symm
          · exact hBK _ _ _ JA.out (by decide) (by decide) (by decide)
          · have h := hBK _ _ _ JX.out (by decide) (by decide) (by decide)
            try rw [HYV.out] at h
            exact h
          · exact hBK _ _ _ Ja.out (by decide) (by decide) (by decide)
          · exact hBK _ _ _ Jk.out (by decide) (by decide) (by decide)
          · exact Nat.le_trans iS (Nat.le_trans hWD.size HSJ.out.size)
  case done =>
    rintro D xs W hD hS ⟨⟨⟨ps', hxA, hst⟩, iA, iX, ia, ik⟩, iS⟩ hK
    rw [covM_all s.mm (List.replicate N y) (by simp) xs hS] at hxA
    have HXA := Lib.hid hxA; have HST := Lib.hid hst
    clear hxA hst iA iX ia ik
    gi_wp2_with fail
    have hg := grownBy_putObj' W D (.deferred none)
    have hr : ∀ r, some D = some r → ∃ o : Obj, W.heap[r]? = some o ∧ o.isCells = false := fun r e => by cases e; exact ⟨_, hK, rfl⟩
    refine ⟨by simp, .inl ⟨_, _, rfl, run_takeDeferred hK, ?_⟩⟩
    refine ⟨_, results_tmp rfl _ _ _, ?_, ps', p, n, cap, ?_, HST.out.grown hg (fun r e => by cases e; exact Nat.le_trans BW2.size hD), fun _ _ _ => .inl rfl⟩
    · rw [HNU.out]; rfl
    · unfold fillS
      rw [HNU.out, if_pos rfl, Int.toNat_natCast, Int.toNat_natCast]
      exact HXA.out.grown hg hr
  case stop =>
    rintro D c pre W _ _ h _
    exact h.elim
theorem fill_no (h : ArX A s P ps p n cap w) (a k : Int) (ha : a ≤ 9223372036854775807) (y : UInt8) (hn : thereE s.L s.es a k ≠ 0) :
    Calls Tryz.prog 133 #[.pointer (some ⟨A, 0, none⟩), .int .i64 a, .int .i64 k, .int .u8 (y.toNat : Int)] w (FillPost A P s ps p a k y w) := by
  have hb0 : (thereE s.L s.es a k != 0) = true := by rw [bne_iff_ne]; exact hn
  have HNE := Lib.hid hn
  have HX := Lib.hid h
  clear hn h
  go_enter Tryz.func133, Tryz.ntmps133
  go_wp2_with fail
  have B0 : Below w.heap.size w ((w.alloc (.cells #[.pointer (some ⟨A, 0, none⟩)] 24)).alloc (.cells #[.int .u8 (y.toNat : Int)] 5)) := ((Below.refl w.heap.size w).alloc (Nat.le_refl _) _).alloc (by simp) _
  refine (there_any (HX.out.below B0) a k ha).mono ?_
  rintro e w1 ⟨rfl, hb⟩
  have B1 := B0.trans (hb.mono B0.size)
  clear hb
  go_wp2_with fail
  go_ret
  refine ⟨rfl, ps, p, n, cap, ?_, Step.of_below B1, fun _ _ _ => .inl rfl⟩
  unfold fillS
  rw [if_neg HNE.out]; exact HX.out.below B1
theorem fill_any (h : ArX A s P ps p n cap w) (a k : Int) (ha : a ≤ 9223372036854775807) (y : UInt8) :
    Calls Tryz.prog 133 #[.pointer (some ⟨A, 0, none⟩), .int .i64 a, .int .i64 k, .int .u8 (y.toNat : Int)] w (FillPost A P s ps p a k y w) := by
  by_cases hn : thereE s.L s.es a k = 0
  · have ht : thereB s.L s.es a k = true := by
      unfold thereE at hn
      cases hq : thereB s.L s.es a k with
      | true => rfl
      | false => rw [hq] at hn; cases hn
    obtain ⟨t0, t1, t2, t3⟩ := (there_iff h.good a k).1 ht
    obtain ⟨an, rfl⟩ : ∃ an : Nat, a = an := ⟨a.toNat, by omega⟩
    obtain ⟨kn, rfl⟩ : ∃ kn : Nat, k = kn := ⟨k.toNat, by omega⟩
    exact callsIn_wide.1 (fill_yes h an kn y hn)
  · exact fill_no h a k ha y hn
end
end Go.Proofs.YtfemgekhpcgliaaGreat.Bt
