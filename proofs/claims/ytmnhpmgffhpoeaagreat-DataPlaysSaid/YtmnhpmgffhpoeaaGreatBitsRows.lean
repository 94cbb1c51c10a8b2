/- The contract of the statements' rows: all longest rows of a set, first number and how many by turns, in a new slice of the call's own. -/
import Derived.Test.YtmnhpmgffhpoeaaGreatBitsIter
import Derived.RangeFuncNested
import Derived.RangeFuncBound
import Derived.RangeFuncCalls
import Derived.Shelf.RegionOpen
import Derived.Maps.AppendAt
namespace Go.Proofs.YtmnhpmgffhpoeaaGreat.Bt
open Go Go.RowKit Go.Shelf

attribute [local go_sem] Oper.semAt_some

/-- a slice of integers in memory -/
def IntsAt (w : World) (v : Value) (zs : List Int) : Prop :=
  (v = .slice none 0 0 ∧ zs = []) ∨ ∃ b off cap, v = .slice (some ⟨b, off, none⟩) zs.length cap ∧ b < w.heap.size ∧ ∀ k, k < zs.length → w.cell? ⟨b, off + k, none⟩ = some (.int .i64 (zs.getD k 0))
def flat (l : List Pr) : List Int := l.flatMap fun x => [(x.1.1 : Int), (x.1.2 : Int)]
def flatV (l : List Pr) : List Value := (flat l).map (Value.int .i64)
theorem flatV_snoc (l : List Pr) (x : Pr) : flatV (l ++ [x]) = flatV l ++ [.int .i64 (x.1.1 : Int), .int .i64 (x.1.2 : Int)] := by simp [flatV, flat]
theorem flat_length (l : List Pr) : (flat l).length = 2 * l.length := by
  induction l with
  | nil => rfl
  | cons x t ih => simp [flat] at ih ⊢; omega
def RowsPost (es : List Nat) (w : World) (e : Ending) (w' : World) : Prop := ∃ v, e = .returned v ∧ IntsAt w' v (flat (pairs es)) ∧ Below w.heap.size w w'

theorem ownsRow_base {W : World} {base base' : Nat} {e : TypeId} {size : Nat} {v : Value} {k : Nat} {xs : List Value} (h : W.ownsRow base e size v k xs) (hb : base' ≤ base) : W.ownsRow base' e size v k xs := by
  refine ⟨h.1, ?_⟩
  rcases h.2 with h' | ⟨g, cap, cur, e1, e2, rest⟩
  · exact .inl h'
  · exact .inr ⟨g, cap, cur, e1, Nat.le_trans hb e2, rest⟩
theorem own_ints {W : World} {base : Nat} {e : TypeId} {v : Value} {k : Nat} {zs : List Int} (h : W.ownsRow base e 1 v k (zs.map (Value.int .i64))) : IntsAt W v zs := by
  have hk : zs.length = k := by have := h.1; simpa using this
  rcases h.2 with ⟨rfl, h0⟩ | ⟨g, cap, cur, rfl, _, hg, _, _, hsz, htk⟩
  · exact .inl ⟨rfl, List.eq_nil_of_length_eq_zero (by omega)⟩
  · refine .inr ⟨g, 0, cap, by rw [hk], (Array.getElem?_eq_some_iff.1 hg).1, fun j hj => ?_⟩
    rw [Nat.zero_add, World.ownsRow.cellAt h j (by omega)]
    simp [List.getD_eq_getElem?_getD, List.getElem?_eq_getElem hj]
theorem app_keeps {W w1 : World} {base B x : Nat} {e : TypeId} {v v' : Value} {k : Nat} {xs : List Value} {tmp : Obj} (hrow : W.ownsRow base e 1 v k xs) (hgrow : (W.alloc tmp).grownBy w1 v.ownBlock) (hx : x < base) (hxW : x < W.heap.size) (hne : x ≠ B) :
    (w1.setCell ⟨B, 0, none⟩ v').heap[x]? = W.heap[x]? := by
  rw [Below.heap_setCell _ ⟨B, 0, none⟩ _ _ (by exact hne)]
  refine (hgrow.block x (by simp; omega) ?_).trans (Below.heap_alloc _ _ _ hxW)
  rcases hrow.2 with ⟨rfl, _⟩ | ⟨g, cap, cur, rfl, hb, _⟩
  · simp [Value.ownBlock]
  · simp [Value.ownBlock]; omega

set_option maxRecDepth 100000 in
set_option maxHeartbeats 4000000 in
theorem rows_in (L : Nat) (p : Option Addr) (m cap b : Nat) (es : List Nat) (w : World) (g : Good L es) (hm : m = es.length) (hb : b < w.heap.size + 3) (hb1 : b ≠ w.heap.size + 1) (hrow : ∀ W : World, Below w.heap.size w W → RowIn b W p es) :
    CallsIn Fence.wide 4 Tryz.prog 107 #[.agg #[.int .i64 L, .slice p m cap]] w (RowsPost es w) := by
  have hgl := good_len g
  have HM := Lib.hid hm; clear hm
  have HR := Lib.hid hrow; clear hrow
  obtain ⟨i0, hi, hz0, hz1, hz2⟩ := info_parts Tryz.info3
  refine callsIn_of_wp_marks Tryz.func107 rfl trivial ?_ rfl
  simp only [Tryz.ntmps107, List.size_toArray, List.length_cons, List.length_nil, Nat.reduceAdd, Nat.reduceSub, Array.replicate_succ, Array.replicate_zero, List.push_toArray, List.append_toArray, List.nil_append, List.cons_append]
  gi_wp2_with (refine ⟨trivial, ?_⟩; gi_at_call 77; refine (callsIn_wide.2 (rows_fn L p m cap _)).mono ?_; rintro e w' ⟨rfl, rfl⟩)
  have hD : Below w.heap.size w (((w.alloc (.cells #[.int .i64 L, .slice p m cap] 73)).alloc (.cells #[.slice none 0 0] 71)).alloc (.cells #[.int .i64 L, .slice p m cap] 73)) := (((Below.refl _ w).alloc (Nat.le_refl _) _).alloc (by simp) _).alloc (by simp; omega) _
  have bO := (Boxed.new (w.alloc (.cells #[.int .i64 L, .slice p m cap] 73)) 71 (.slice none 0 0)).alloc (.cells #[.int .i64 L, .slice p m cap] 73)
  rw [World.size_alloc] at bO
  have hc1 : (((w.alloc (.cells #[.int .i64 L, .slice p m cap] 73)).alloc (.cells #[.slice none 0 0] 71)).alloc (.cells #[.int .i64 L, .slice p m cap] 73)).cell? ⟨w.heap.size + 2, 1, none⟩ = some (.slice p m cap) := by
    have e := World.cell?_alloc_new (w := (w.alloc (.cells #[.int .i64 L, .slice p m cap] 73)).alloc (.cells #[.slice none 0 0] 71)) #[.int .i64 L, .slice p m cap] 73 1
    simpa using e
  have hsz : (((w.alloc (.cells #[.int .i64 L, .slice p m cap] 73)).alloc (.cells #[.slice none 0 0] 71)).alloc (.cells #[.int .i64 L, .slice p m cap] 73)).heap.size = w.heap.size + 3 := by simp
  refine wpIn_rangeFunc_ownF rfl (by omega) (gf := 89) (lb := #[.pointer (some ⟨w.heap.size + 2, 0, none⟩)]) rfl trivial (enters_of Tryz.func89 (by kernel_rfl) rfl)
    (rows_stops (4 - 1) (w.heap.size + 2) b L m cap p es g HM.out _ (by simp) (by simp; omega) hc1 (HR.out _ hD)) K2.trans (K2.put (by simp) (by simp; omega)) (Below.refl _ _) (fun _ => rfl)
    (fun pre W => (∃ v, Boxed W (w.heap.size + 1) 71 v ∧ W.ownsRow (w.heap.size + 3) 3 1 v (2 * pre.length) (flatV pre)) ∧ (Below w.heap.size w W ∧ w.heap.size + 3 ≤ W.heap.size))
    (fun _ _ _ => False)
    ?hI (fun _ _ _ _ _ hs _ _ => hs) ?h0
    (fun x => { tmps := #[.agg #[.int .i64 L, .slice p m cap], .pointer (some ⟨w.heap.size, 0, none⟩), .slice none 0 0, .pointer (some ⟨w.heap.size + 1, 0, none⟩), .int .i64 (x.1.1 : Int), .int .i64 (x.1.2 : Int), .agg #[.int .i64 L, .slice p m cap], .func (.func 89) #[] #[.pointer (some ⟨w.heap.size + 2, 0, none⟩)], .int .i64 (x.1.1 : Int), .int .i64 (x.1.2 : Int), undef, undef, undef, undef, undef, undef], defers := [] }) ?assign ?body ?done ?stop
  case hI =>
    refine OwnFrom.and (Own.from (fun s X Y row hs hg hr => ?_) _) (fun s X Y row hs hg hr => ?_)
    · obtain ⟨v, hv, hrw⟩ := hs
      have hne : ∀ k, row = some k → (∀ cur t z, X.heap[k]? ≠ some (.cells cur t z)) := fun k e cur t z h => by
        obtain ⟨o, ho, hc⟩ := hr k e
        rw [h] at ho; cases ho; cases hc
      refine ⟨v, hv.kept hg (fun e => hne _ e.symm _ _ _ hv), hrw.kept hg ?_⟩
      rcases hrw.2 with ⟨rfl, _⟩ | ⟨gg, cap', cur, rfl, _, hgb, _⟩
      · exact .inl rfl
      · exact .inr fun e => hne _ e.symm _ _ _ hgb
    · refine ⟨hs.1.grown hg hs.1.size (fun k e => ?_), Nat.le_trans hs.2 hg.size⟩
      have := (hr k e).1; rw [hsz] at this; omega
  case h0 => exact ⟨⟨_, bO, World.ownsRow_nil _ _ _ _⟩, hD, by rw [hsz]; exact Nat.le_refl _⟩
  case assign =>
    intro l x W K hK
    simp only [encPr]
    gi_wp2
    exact hK
  case body =>
    rintro l pre x W ⟨⟨v, hv, hrow⟩, hB, hW3⟩ hlt
    have hc := hv.cell
    have hlen : pre.length < es.length / 2 := hlt
    gi_wp2_with (gi_at_builtin; refine wpListIn_append_own _ rfl _ _ 71 rfl (w.heap.size + 3) 3 i0 (.int .i64 0) 1 8 Tryz.underlying71 hi hz0 hz1 hz2 rfl (by decide) _ _ _ rfl (hrow.alloc _) ⟨W.heap.size, 0, none⟩ 2 2 [.int .i64 (x.1.1 : Int), .int .i64 (x.1.2 : Int)] rfl rfl (cell_two_new _ _ _ _) (by simp [Value.oneCell']) (by unfold maxLen; omega) (by omega) (by simp; omega) ?_; intro v' w1 hown' hgrow _; obtain ⟨g', cap', rfl⟩ := ownsRow_succ hown'; have hap := hv.appended (by decide) (ownsRow_base hrow (show w.heap.size ≤ w.heap.size + 3 by omega)) hB.size (Nat.le_succ _) (ownsRow_base hown' (show w.heap.size ≤ w.heap.size + 3 by omega)) hgrow; obtain ⟨hv1, hv2, hr2, hk2, hb2⟩ := hap; have hc1 := hv1.cell; have hf1 := hv1.frozen)
    have e2 : 2 * (pre ++ [x]).length = 2 * pre.length + 1 + 1 := by simp; omega
    refine ⟨hk2, ⟨app_keeps hrow hgrow (by omega) (by omega) (by omega), app_keeps hrow hgrow hb (by omega) hb1⟩, ⟨_, hv2, ?_⟩, hB.trans hb2, Nat.le_trans hW3 hb2.size⟩
    rw [e2, flatV_snoc]
    exact hown'.kept (grownBy_setCell' w1 (w.heap.size + 1) _) (.inr (hv1.not_row (by decide) hown').symm)
  case done =>
    rintro D ys W hD2 rfl ⟨⟨v, hv, hrow⟩, hB, hW3⟩ hK
    have hc := hv.cell
    gi_wp2
    refine ⟨by simp, .inl ⟨_, _, rfl, run_takeDeferred hK, ?_⟩⟩
    refine ⟨_, results_tmp rfl _ _ _, v, rfl, own_ints (ownsRow_putObj hrow _ hK rfl), hB.trans (belowK_b (w := w) (Nat.le_refl _) W D _ _ (by rw [hsz] at hD2; omega) hK rfl rfl)⟩
  case stop =>
    rintro D c pre W _ _ h _
    exact h.elim

theorem rows_any (L : Nat) (p : Option Addr) (m cap : Nat) (es : List Nat) (w : World) (g : Good L es) (hm : m = es.length) (hrow : RowAt w p es) :
    Calls Tryz.prog 107 #[.agg #[.int .i64 L, .slice p m cap]] w (RowsPost es w) := by
  rcases hrow with ⟨rfl, rfl⟩ | ⟨b, off, rfl, hlt, hc⟩
  · exact callsIn_wide.1 (rows_in L none m cap (w.heap.size + 2) [] w g hm (by omega) (by omega) (fun W _ => .inl ⟨rfl, rfl⟩))
  · exact callsIn_wide.1 (rows_in L _ m cap b es w g hm (by omega) (by omega) (fun W hW => .inr ⟨off, rfl, fun k hk => (hW.cell (p := ⟨b, off + k, none⟩) hlt).trans (hc k hk)⟩))
end Go.Proofs.YtmnhpmgffhpoeaaGreat.Bt
