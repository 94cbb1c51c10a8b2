/- The document's rows of a set of bools. -/
import Derived.Test.YtoineackmpafdaaPbA
import Derived.OwnWalk
import Derived.Maps.AppendAt
namespace Go.Proofs.Ytoineackmpafdaa.Bt
open Go Go.RowKit Go.Shelf
set_option linter.unusedVariables false
set_option linter.unusedSimpArgs false

def vI (zs : List Int) : List Value := zs.map (Value.int .i64)
theorem vI_inc (zs : List Int) : vI (incLast zs) = (vI zs).set (zs.length - 1) (.int .i64 (zs.getD (zs.length - 1) 0 + 1)) := by unfold vI incLast; rw [List.map_set]
theorem inc_len (zs : List Int) : (incLast zs).length = zs.length := by simp [incLast]
theorem inc_snoc (zs : List Int) (a b : Int) : incLast (zs ++ [a, b]) = zs ++ [a, b + 1] := by
  unfold incLast
  have e : (zs ++ [a, b]).length - 1 = zs.length + 1 := by simp
  rw [e, List.getD_eq_getElem?_getD, List.getElem?_append_right (by omega), List.set_append_right _ _ (by omega)]
  simp
theorem own_grow1 {W w1 w : World} {base n k : Nat} {e : TypeId} {v : Value} {xs : List Value} (hrow : W.ownsRow base e k v n xs) (hgrow : W.grownBy w1 v.ownBlock) (hs : base ≤ W.heap.size) (hb : Below base w W) : Below base w w1 :=
  hb.grown hgrow (by omega) fun j ej => by
    rcases hrow.2 with ⟨rfl, _⟩ | ⟨g, cap, cur, rfl, h, _⟩
    · simp [Value.ownBlock] at ej
    · obtain rfl : g = j := by simpa [Value.ownBlock] using ej
      exact h
/-- the last cell of a row of integers, and the row with that one more -/
theorem own_last {W w : World} {base : Nat} {v : Value} {zs : List Int} (h : W.ownsRow base 3 1 v zs.length (vI zs)) (hz : zs ≠ []) (hb : Below base w W) (hs : base ≤ W.heap.size) : ∃ g cap, v = .slice (some ⟨g, 0, none⟩) zs.length cap ∧
    W.cell? ⟨g, zs.length - 1, none⟩ = some (.int .i64 (zs.getD (zs.length - 1) 0)) ∧ W.frozen? ⟨g, zs.length - 1, none⟩ = false ∧
    (W.setCell ⟨g, zs.length - 1, none⟩ (.int .i64 (zs.getD (zs.length - 1) 0 + 1))).ownsRow base 3 1 v (incLast zs).length (vI (incLast zs)) ∧ Below base w (W.setCell ⟨g, zs.length - 1, none⟩ (.int .i64 (zs.getD (zs.length - 1) 0 + 1))) := by
  have hl : 0 < zs.length := List.length_pos_iff.2 hz
  rcases h.2 with ⟨_, h0⟩ | ⟨g, cap, cur, rfl, hg, _⟩
  · omega
  · refine ⟨g, cap, rfl, ?_, h.frozenAt _, ?_, hb.setCell (p := ⟨g, _, none⟩) hg _⟩
    · rw [h.cellAt _ (by omega)]
      unfold vI
      rw [List.getElem?_map, List.getD_eq_getElem?_getD, List.getElem?_eq_getElem (by omega)]; rfl
    · rw [inc_len, vI_inc]
      exact (h.stored _ _).1
structure RwR (b n : Nat) (f : Nat → Bool) (b0 : Nat) (zs : List Int) (v : Value) (w x : World) : Prop where
  s : BolAt b n f x
  o : x.ownsRow b0 3 1 v zs.length (vI zs)
  l : Below b0 w x
  z : b0 ≤ x.heap.size
theorem RwR.app {b n b0 : Nat} {f : Nat → Bool} {zs : List Int} {v v' : Value} {w x y : World} (h : RwR b n f b0 zs v w x) (hb : b < b0) {tmp : Obj} {a c : Int} (hg : (x.alloc tmp).grownBy y v.ownBlock) (ho : y.ownsRow b0 3 1 v' (zs.length + 2) (vI zs ++ [.int .i64 a, .int .i64 c])) : RwR b n f b0 (zs ++ [a, c]) v' w y := by
  have hz := h.z
  have hs := hg.size
  simp at hs
  have hbx := h.s.lt
  refine ⟨?_, by simpa [vI] using ho, own_grow1 (h.o.alloc tmp) hg (by simp; omega) (h.l.alloc hz tmp), by omega⟩
  refine ((hg.block b (by simp; omega) ?_).trans (Below.heap_alloc _ _ _ hbx)).trans h.s
  intro e
  have := (h.o.lt b e.symm).1
  omega
/-- the last one, and one more -/
theorem RwR.last {b n b0 : Nat} {f : Nat → Bool} {ys : List Int} {v : Value} {w x : World} (h : RwR b n f b0 ys v w x) (hb : b < b0) {j : Nat} (hj : ys.length = j + 1) (hbd : ∀ z ∈ ys, 0 ≤ z ∧ z ≤ 300) :
    ∃ g cap y, v = .slice (some ⟨g, 0, none⟩) (j + 1) cap ∧ x.cell? ⟨g, j, none⟩ = some (.int .i64 y) ∧ x.frozen? ⟨g, j, none⟩ = false ∧ (0 ≤ y ∧ y ≤ 300) ∧ RwR b n f b0 (incLast ys) v w (x.setCell ⟨g, j, none⟩ (.int .i64 (y + 1))) := by
  obtain ⟨g, cap, e1, e2, e3, e4, e5⟩ := own_last h.o (fun e => by rw [e] at hj; simp at hj) h.l h.z
  have hl : ys.length - 1 = j := by omega
  rw [hl] at e2 e3 e4 e5
  subst e1
  have hg : b0 ≤ g := (h.o.lt g rfl).1
  refine ⟨g, cap, ys.getD j 0, by rw [hj], e2, e3, ?_, h.s.keep (by omega) _ _, e4, e5, by have := h.z; simpa [World.setCell] using this⟩
  rw [List.getD_eq_getElem?_getD, List.getElem?_eq_getElem (show j < ys.length by omega)]
  exact hbd _ (List.getElem_mem _)
def RowsB (b n : Nat) (f : Nat → Bool) (w : World) (e : Ending) (w' : World) : Prop := ∃ v, e = .returned v ∧ IntsAt w' v (rI f n) ∧ Below w.heap.size w w'
set_option maxHeartbeats 4000000 in
set_option maxRecDepth 100000 in
theorem prows_any (b n : Nat) (hn : n ≤ 300) (f : Nat → Bool) (w : World) (h : BolAt b n f w) :
    Calls Try.prog 133 #[.slice (some ⟨b, 0, none⟩) n n] w (RowsB b n f w) := by
  obtain ⟨i0, hi0, hz0, hz1, hz2⟩ := info_parts Try.info3
  have HI := Lib.hid hi0; have HZ0 := Lib.hid hz0; have HZ1 := Lib.hid hz1; have HZ2 := Lib.hid hz2
  clear hi0 hz0 hz1 hz2
  obtain ⟨b0, hb0⟩ : ∃ b0, w.heap.size = b0 := ⟨_, rfl⟩
  have HB0 := Lib.hid hb0
  have H0 : Hid (RwR b n f b0 (rI f 0) (.slice none 0 0) w w) := Lib.hid ⟨h, World.ownsRow_nil _ _ _ _, Below.refl _ _, by omega⟩
  have hbl := h.lt
  have HBL : Hid (b < b0) := Lib.hid (by omega)
  clear h hb0 hbl
  go_enter Try.func133, Try.ntmps133
  go_wp2_with fail
  go_loopw [8, 3] (fun s8 s3 wr => ∃ i : Nat, i ≤ n ∧ s8 = .int .i64 (i : Int) ∧ RwR b n f b0 (rI f i) s3 w wr) (fun s8 _ _ => n - (intOf s8).toNat)
  case atStart => exact ⟨0, Nat.zero_le _, rfl, H0.out⟩
  case round =>
    clear H0
    obtain ⟨i, hi, rfl, hr⟩ := hrel
    have HR := Lib.hid hr
    by_cases hlt : i < n
    · have hs := hr.s.cell i hlt
      have HST : Hid (rI f (i + 1) = stR f (rI f i) i) := Lib.hid rfl
      have hbd := Lib.hid (rI_bd f i)
      have hlen := rI_len f i
      have HSM := Lib.hid (fun (h1 : i ≠ 0) (h2 : f (i - 1) = true) => (by have := rI_some f (i - 1) h2; rwa [show i - 1 + 1 = i by omega] at this : rI f i ≠ []))
      obtain ⟨zs, hzs⟩ : ∃ zs, rI f i = zs := ⟨_, rfl⟩
      rw [hzs] at HR HST hbd hlen HSM
      clear hr hzs
      have hzl : zs.length ≤ 600 := by omega
      clear hlen
      obtain ⟨v, hv⟩ : ∃ v, f i = v := ⟨_, rfl⟩
      rw [hv] at hs
      have HV := Lib.hid hv
      clear hv
      cases v with
      | false =>
        have HZ : Hid (rI f (i + 1) = zs) := Lib.hid (by rw [HST.out]; unfold stR; rw [if_pos HV.out])
        go_wp2_with fail
        go_roundw
        case rel => exact ⟨i + 1, by omega, by go_num, by rw [HZ.out]; exact HR.out⟩
        case measure => simp [intOf]; omega
      | true =>
        have hbl := HBL.out
        by_cases h0 : (i = 0 ∨ f (i - 1) = false)
        · have HZ : Hid (rI f (i + 1) = incLast (zs ++ [(i : Int), 0])) := Lib.hid (by
            rw [HST.out, inc_snoc]; unfold stR
            rw [if_neg (by rw [HV.out]; decide), if_pos h0]; rfl)
          have HLST : Hid (∀ (v : Value) (x : World) (_ : Unit) (h : RwR b n f b0 (zs ++ [(i : Int), 0]) v w x), ∃ g cap y, v = .slice (some ⟨g, 0, none⟩) (zs.length + 1 + 1) cap ∧ x.cell? ⟨g, zs.length + 1, none⟩ = some (.int .i64 y) ∧ x.frozen? ⟨g, zs.length + 1, none⟩ = false ∧ (0 ≤ y ∧ y ≤ 300) ∧ RwR b n f b0 (rI f (i + 1)) v w (x.setCell ⟨g, zs.length + 1, none⟩ (.int .i64 (y + 1)))) := Lib.hid fun v x _ h => by
            rw [HZ.out]
            refine h.last HBL.out (by simp) fun z hz => ?_
            rcases List.mem_append.1 hz with hz | hz
            · have := hbd.out z hz; omega
            · simp at hz; omega
          have HRA := Lib.hid (HR.out.o.alloc (.cells #[.int .i64 (i : Int), .int .i64 0] 3))
          have hz0 := HR.out.z
          by_cases hi0 : i = 0
          · subst hi0
            go_wp2_with (at_builtin; refine wpList_append_own _ rfl _ _ 42 rfl b0 3 i0 (.int .i64 0) 1 8 Try.underlying42 HI.out HZ0.out HZ1.out HZ2.out rfl (by decide) _ _ _ rfl HRA.out ⟨_, 0, none⟩ 2 2 [.int .i64 0, .int .i64 0] rfl rfl (cell_two_new _ _ _ _) (by simp [Value.oneCell']) (by unfold maxLen; omega) (by omega) (by simp; omega) ?_; intro v' w2 hown' hgrow _; obtain ⟨g, cap, y, rfl, hq1, hq2, hq3, hq4⟩ := HLST.out _ _ () (HR.out.app HBL.out hgrow hown'))
            have HQ := Lib.hid hq4
            clear hown' hgrow hq1 hq2
            go_wp2_with fail
            go_roundw
            case rel => exact ⟨0 + 1, by omega, by go_num, HQ.out⟩
            case measure => simp [intOf]; omega
          · have hp : f (i - 1) = false := h0.resolve_left hi0
            have hs2 := HR.out.s.cell (i - 1) (by omega)
            rw [hp] at hs2
            have hi2 : (i : Int) - 1 = ((i - 1 : Nat) : Int) := by omega
            obtain ⟨i1, hi1⟩ : ∃ i1, i - 1 = i1 := ⟨_, rfl⟩
            rw [hi1] at hs2 hi2
            have hi3 : (i1 : Int) < (n : Int) := by omega
            have hi4 : ((i : Int) == 0) = false := by simpa using hi0
            have hi5 : IntKind.i64.wrap ((i : Int) - 1) = (i1 : Int) := by rw [hi2]; exact IntWalk.i64_in _ (by omega)
            have hi6 : wrap64 ((i : Int) - 1) = (i1 : Int) := by rw [hi2]; exact IntWalk.wrap64_in _ ⟨by omega, by omega⟩
            clear h0 hp hi1 hi0
            go_wp2_with (at_builtin; refine wpList_append_own _ rfl _ _ 42 rfl b0 3 i0 (.int .i64 0) 1 8 Try.underlying42 HI.out HZ0.out HZ1.out HZ2.out rfl (by decide) _ _ _ rfl HRA.out ⟨_, 0, none⟩ 2 2 [.int .i64 (i : Int), .int .i64 0] rfl rfl (cell_two_new _ _ _ _) (by simp [Value.oneCell']) (by unfold maxLen; omega) (by omega) (by simp; omega) ?_; intro v' w2 hown' hgrow _; obtain ⟨g, cap, y, rfl, hq1, hq2, hq3, hq4⟩ := HLST.out _ _ () (HR.out.app HBL.out hgrow hown'))
            have HQ := Lib.hid hq4
            clear hown' hgrow hq1 hq2
            go_wp2_with fail
            go_roundw
            case rel => exact ⟨i + 1, by omega, by go_num, HQ.out⟩
            case measure => simp [intOf]; omega
        · have hi0 : i ≠ 0 := fun e => h0 (.inl e)
          have hp : f (i - 1) = true := by
            cases e : f (i - 1) with
            | true => rfl
            | false => exact absurd (.inr e) h0
          have hzn := HSM.out hi0 hp
          have HZ : Hid (rI f (i + 1) = incLast zs) := Lib.hid (by
            rw [HST.out]; unfold stR
            rw [if_neg (by rw [HV.out]; decide), if_neg h0])
          obtain ⟨jl, hjl⟩ : ∃ jl, zs.length = jl + 1 := ⟨zs.length - 1, by have := List.length_pos_iff.2 hzn; omega⟩
          obtain ⟨g, cap, y, rfl, hq1, hq2, hq3, hq4⟩ := HR.out.last HBL.out hjl (fun z hz => by have := hbd.out z hz; omega)
          rw [← HZ.out] at hq4
          have HQ := Lib.hid hq4
          have hs2 := HR.out.s.cell (i - 1) (by omega)
          rw [hp] at hs2
          have hi2 : (i : Int) - 1 = ((i - 1 : Nat) : Int) := by omega
          obtain ⟨i1, hi1⟩ : ∃ i1, i - 1 = i1 := ⟨_, rfl⟩
          rw [hi1] at hs2 hi2
          have hi3 : (i1 : Int) < (n : Int) := by omega
          have hi4 : ((i : Int) == 0) = false := by simpa using hi0
          have hi5 : IntKind.i64.wrap ((i : Int) - 1) = (i1 : Int) := by rw [hi2]; exact IntWalk.i64_in _ (by omega)
          have hi6 : wrap64 ((i : Int) - 1) = (i1 : Int) := by rw [hi2]; exact IntWalk.wrap64_in _ ⟨by omega, by omega⟩
          clear h0 hp hi1 hi0 hzn hq4
          have hjb : jl ≤ 600 := by omega
          clear hjl hzl
          go_wp2_with fail
          go_roundw
          case rel => exact ⟨i + 1, by omega, by go_num, HQ.out⟩
          case measure => simp [intOf]; omega
    · obtain rfl : i = n := by omega
      have HF := Lib.hid (own_ints HR.out.o)
      have HL : Hid (Below w.heap.size w wr) := Lib.hid (by rw [HB0.out]; exact HR.out.l)
      clear hr
      go_wp2_with fail
      go_ret
      exact ⟨_, rfl, HF.out, HL.out⟩
end Go.Proofs.Ytoineackmpafdaa.Bt
