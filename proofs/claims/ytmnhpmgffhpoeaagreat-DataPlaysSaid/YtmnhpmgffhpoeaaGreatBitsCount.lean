/- The contract of Count: how many of a row are in the set; and that nothing that was there is turned. -/
import Derived.Test.YtmnhpmgffhpoeaaGreatBitsCountMath
import Derived.Test.YtmnhpmgffhpoeaaGreatBitsLay
namespace Go.Proofs.YtmnhpmgffhpoeaaGreat.Bt
open Go Go.RowKit Go.Shelf

attribute [local go_sem] Oper.semAt_some

def countV (L : Nat) (es : List Nat) (fr n : Int) : Int := if withinB L fr n then (memCount es fr.toNat n.toNat : Int) else 0
def CountPost (L : Nat) (es : List Nat) (fr n : Int) (w : World) (e : Ending) (w' : World) : Prop := e = .returned (.tuple #[.int .i64 (countV L es fr n), .int .i64 (laidErr L fr n)]) ∧ Below w.heap.size w w'

/-- what Count's own variables hold behind its first call, its sum's variable beside them -/
theorem cnt_facts {w w1 : World} {L m cap : Nat} {p : Option Addr} {fr n : Int} (hb : Below (((w.alloc (.cells #[.int .i64 (L : Int), .slice p m cap] 73)).alloc (.cells #[.int .i64 fr] 3)).alloc (.cells #[.int .i64 n] 3)).heap.size (((w.alloc (.cells #[.int .i64 (L : Int), .slice p m cap] 73)).alloc (.cells #[.int .i64 fr] 3)).alloc (.cells #[.int .i64 n] 3)) w1) (y : World) (hy : Below w1.heap.size w1 y) :
    y.cell? ⟨w.heap.size, 0, none⟩ = some (.int .i64 (L : Int)) ∧ y.cell? ⟨w.heap.size, 1, none⟩ = some (.slice p m cap) ∧ y.cell? ⟨w.heap.size + 1, 0, none⟩ = some (.int .i64 fr) ∧ y.cell? ⟨w.heap.size + 1 + 1, 0, none⟩ = some (.int .i64 n) ∧ Below w.heap.size w y ∧ w.heap.size + 3 ≤ w1.heap.size := by
  obtain ⟨h1, h2, h3⟩ := three_new w #[.int .i64 (L : Int), .slice p m cap] #[.int .i64 fr] #[.int .i64 n] 73 3 3
  have hs : (((w.alloc (.cells #[.int .i64 (L : Int), .slice p m cap] 73)).alloc (.cells #[.int .i64 fr] 3)).alloc (.cells #[.int .i64 n] 3)).heap.size = w.heap.size + 3 := by simp
  have hB : Below w.heap.size w (((w.alloc (.cells #[.int .i64 (L : Int), .slice p m cap] 73)).alloc (.cells #[.int .i64 fr] 3)).alloc (.cells #[.int .i64 n] 3)) := (((Below.refl _ w).alloc (Nat.le_refl _) _).alloc (by simp) _).alloc (by simp; omega) _
  have hy' := hb.trans (hy.mono hb.size)
  have z1 := (hy'.block _ (by omega)).trans h1
  have z2 := (hy'.block _ (by omega)).trans h2
  have z3 := (hy'.block _ (by omega)).trans h3
  exact ⟨(cell_blk z1 0).1, (cell_blk z1 1).1, (cell_blk z2 0).1, (cell_blk z3 0).1, hB.trans (hy'.mono (by omega)), by have := hb.size; omega⟩

set_option maxRecDepth 100000 in
set_option maxHeartbeats 4000000 in
theorem count_in (L : Nat) (p : Option Addr) (m cap : Nat) (es : List Nat) (fr n : Int) (w : World) (g : Good L es) (hm : m = es.length) (hrow : RowAt w p es) (hw : withinB L fr n = true) :
    CallsIn Fence.wide 4 Tryz.prog 61 #[.agg #[.int .i64 L, .slice p m cap], .int .i64 fr, .int .i64 n] w (CountPost L es fr n w) := by
  have hL := g.small
  have hgl := good_len g
  have hwi : 0 ≤ fr ∧ 0 ≤ n ∧ n ≤ L - fr := by simpa [withinB] using hw
  have HV : Hid (countV L es fr n = sumP fr n (pairs es)) := Lib.hid (by
    unfold countV; rw [hw, if_pos rfl, memCount_sum g, show ((fr.toNat : Nat) : Int) = fr from by omega, show ((n.toNat : Nat) : Int) = n from by omega])
  have HE : Hid (laidErr L fr n = 0) := Lib.hid (by unfold laidErr; rw [hw]; rfl)
  have HW := Lib.hid hw
  have HM := Lib.hid hm
  have hml : m ≤ 1048577 := by omega
  clear hm hw
  refine callsIn_of_wp_marks Tryz.func61 rfl trivial ?_ rfl
  simp only [Tryz.ntmps61, List.size_toArray, List.length_cons, List.length_nil, Nat.reduceAdd, Nat.reduceSub, Array.replicate_succ, Array.replicate_zero, List.push_toArray, List.append_toArray, List.nil_append, List.cons_append]
  gi_wp2_with (first | (refine ⟨trivial, ?_⟩; gi_at_call 76; refine (callsIn_wide.2 (within_any L hL p m cap _ _ (by omega) _)).mono ?_; rw [HW.out]; rintro e w1 ⟨rfl, hb1⟩; obtain ⟨k0, k1, k2, k3, kB, ksz⟩ := cnt_facts hb1 (w1.alloc (.cells #[.int .i64 0] 3)) ((Below.refl _ _).alloc (Nat.le_refl _) _)) | (refine ⟨trivial, ?_⟩; gi_at_call 77; refine (callsIn_wide.2 (rows_fn L p m cap _)).mono ?_; rintro e w' ⟨rfl, rfl⟩))
  have kT : (w1.alloc (.cells #[.int .i64 0] 3)).cell? ⟨w1.heap.size, 0, none⟩ = some (.int .i64 0) := by simp
  have kZ : (w1.alloc (.cells #[.int .i64 0] 3)).frozen? ⟨w1.heap.size, 0, none⟩ = false := by simp
  have BX : Below w1.heap.size w1 ((w1.alloc (.cells #[.int .i64 0] 3)).alloc (.cells #[.int .i64 (L : Int), .slice p m cap] 73)) := ((Below.refl _ _).alloc (Nat.le_refl _) _).alloc (by simp) _
  have hc1 : ((w1.alloc (.cells #[.int .i64 0] 3)).alloc (.cells #[.int .i64 (L : Int), .slice p m cap] 73)).cell? ⟨w1.heap.size + 1, 1, none⟩ = some (.slice p m cap) := by
    simp
  have hsz : ((w1.alloc (.cells #[.int .i64 0] 3)).alloc (.cells #[.int .i64 (L : Int), .slice p m cap] 73)).heap.size = w1.heap.size + 2 := by simp
  obtain ⟨b, hbl, hbT, hRow⟩ : ∃ b, b < w1.heap.size + 2 ∧ b ≠ w1.heap.size ∧ RowIn b ((w1.alloc (.cells #[.int .i64 0] 3)).alloc (.cells #[.int .i64 (L : Int), .slice p m cap] 73)) p es := by
    have hB2 : Below w.heap.size w ((w1.alloc (.cells #[.int .i64 0] 3)).alloc (.cells #[.int .i64 (L : Int), .slice p m cap] 73)) := kB.trans (((Below.refl _ _).alloc (Nat.le_refl _) _).mono kB.size)
    rcases hrow with ⟨rfl, rfl⟩ | ⟨b, off, rfl, hlt, hc⟩
    · exact ⟨w1.heap.size + 1, by omega, by omega, .inl ⟨rfl, rfl⟩⟩
    · exact ⟨b, by omega, by omega, .inr ⟨off, rfl, fun k hk => (hB2.cell (p := ⟨b, off + k, none⟩) hlt).trans (hc k hk)⟩⟩
  refine wpIn_rangeFunc_ownF rfl (by omega) (gf := 89) (lb := #[.pointer (some ⟨w1.heap.size + 1, 0, none⟩)]) rfl trivial (enters_of Tryz.func89 (by kernel_rfl) rfl)
    (rows_stops (4 - 1) (w1.heap.size + 1) b L m cap p es g HM.out _ (by rw [hsz]; omega) (by rw [hsz]; omega) hc1 hRow) K2.trans (K2.put (by rw [hsz]; omega) (by rw [hsz]; omega)) (Below.refl _ _) (fun _ => rfl)
    (fun pre W => (W.cell? ⟨w1.heap.size, 0, none⟩ = some (.int .i64 (sumP fr n pre)) ∧ W.frozen? ⟨w1.heap.size, 0, none⟩ = false) ∧ Below w1.heap.size w1 W)
    (fun _ _ _ => False)
    (OwnFrom.and (Own.from (fun s A B row hs hg hr => ⟨cell_kept hs.1 hg hr, (frozen_kept hs.1 hg hr).trans hs.2⟩) _) (ownFrom_below (Nat.le_refl _) (by rw [hsz]; omega)))
    (fun _ _ _ _ _ hs _ _ => hs)
    ⟨⟨by rw [((Below.refl _ _).alloc (Nat.le_refl _) _ : Below (w1.alloc (.cells #[.int .i64 0] 3)).heap.size _ _).cell (p := ⟨w1.heap.size, 0, none⟩) (by simp)]; exact kT, by rw [((Below.refl _ _).alloc (Nat.le_refl _) _ : Below (w1.alloc (.cells #[.int .i64 0] 3)).heap.size _ _).frozen (p := ⟨w1.heap.size, 0, none⟩) (by simp)]; exact kZ⟩, BX⟩
    (fun x => { tmps := #[.agg #[.int .i64 L, .slice p m cap], .int .i64 fr, .int .i64 n, .pointer (some ⟨w.heap.size, 0, none⟩), .pointer (some ⟨w.heap.size + 1, 0, none⟩), .pointer (some ⟨w.heap.size + 1 + 1, 0, none⟩), .int .i64 0, .int .i64 0, .pointer (some ⟨w1.heap.size, 0, none⟩), .int .i64 (x.1.1 : Int), .int .i64 (x.1.2 : Int), undef, undef, .agg #[.int .i64 L, .slice p m cap], .int .i64 fr, .int .i64 n, .bool true, .bool false, .agg #[.int .i64 L, .slice p m cap], .func (.func 89) #[] #[.pointer (some ⟨w1.heap.size + 1, 0, none⟩)], .int .i64 (x.1.1 : Int), .int .i64 (x.1.2 : Int), undef, undef, undef, undef, undef, undef, undef, undef, undef, undef, undef, undef, undef, undef, undef, undef, undef], defers := [] }) ?assign ?body ?done ?stop
  case assign =>
    intro l x W K hK
    simp only [encPr]
    gi_wp2
    exact hK
  case body =>
    rintro l pre x W ⟨⟨hc, hf⟩, hB⟩ hlt
    obtain ⟨_, _, q2, q3, qB, _⟩ := cnt_facts hb1 W hB
    have hx := x.2
    have hsb := sumP_bd hwi.1 hwi.2.1 (by omega) pre
    have hob := ovP_bd hwi.1 hwi.2.1 (by omega) x
    have hlen : pre.length < es.length / 2 := hlt
    have HOV : Hid (ovP fr n x = ovI fr n x.1.1 ((x.1.1 : Int) + x.1.2)) := Lib.hid rfl
    have HSN := Lib.hid (sumP_snoc fr n pre x)
    obtain ⟨⟨a, c⟩, hxx⟩ := x
    simp only at hx HOV ⊢
    have hob2 : 0 ≤ ovI fr n a (a + c) ∧ ovI fr n a (a + c) ≤ 1048576 := hob
    have hsx : 0 ≤ sumP fr n pre + ovI fr n a (a + c) ∧ sumP fr n pre + ovI fr n a (a + c) ≤ 9223372036854775807 := by omega
    have wa : IntKind.i64.wrap ((a : Int) + c) = a + c := IntWalk.i64_in _ (by omega)
    have wb : IntKind.i64.wrap (fr + n) = fr + n := IntWalk.i64_in _ (by omega)
    by_cases g1 : (a : Int) < fr
    · by_cases g2 : fr + n < (a : Int) + c
      · gi_wp2
        refine round_still_tail 11 (by kernel_rfl) (by kernel_rfl) (by kernel_rfl) ?_
        simp only [List.take_succ_cons, List.take_zero, List.drop_succ_cons, List.drop_zero]
        repeat still_step
        refine wpStill_nil ?_
        clear wa wb
        gi_wp2
        all_goals
          refine ⟨(KeepsOthers.drew _).trans (KeepsOthers.setCell _ _ _), ⟨Below.heap_setCell W.drew ⟨w1.heap.size, 0, none⟩ _ _ (by show w1.heap.size + 1 ≠ w1.heap.size; omega), Below.heap_setCell W.drew ⟨w1.heap.size, 0, none⟩ _ _ (by exact hbT)⟩, ⟨(World.cell?_setCell_same' _ _ _ (by simp [hc])).trans ?_, (World.frozen?_setCell _ _ _ _).trans hf⟩, hB.drew.setCell (p := ⟨w1.heap.size, 0, none⟩) (Nat.le_refl _) _⟩
          rw [HSN.out, HOV.out]
          exact congrArg (fun z => some (Value.int .i64 z)) (by unfold ovI; omega)
      · gi_wp2
        refine round_still_tail 11 (by kernel_rfl) (by kernel_rfl) (by kernel_rfl) ?_
        simp only [List.take_succ_cons, List.take_zero, List.drop_succ_cons, List.drop_zero]
        repeat still_step
        refine wpStill_nil ?_
        clear wa wb
        gi_wp2
        all_goals
          refine ⟨(KeepsOthers.drew _).trans (KeepsOthers.setCell _ _ _), ⟨Below.heap_setCell W.drew ⟨w1.heap.size, 0, none⟩ _ _ (by show w1.heap.size + 1 ≠ w1.heap.size; omega), Below.heap_setCell W.drew ⟨w1.heap.size, 0, none⟩ _ _ (by exact hbT)⟩, ⟨(World.cell?_setCell_same' _ _ _ (by simp [hc])).trans ?_, (World.frozen?_setCell _ _ _ _).trans hf⟩, hB.drew.setCell (p := ⟨w1.heap.size, 0, none⟩) (Nat.le_refl _) _⟩
          rw [HSN.out, HOV.out]
          exact congrArg (fun z => some (Value.int .i64 z)) (by unfold ovI; omega)
    · by_cases g2 : fr + n < (a : Int) + c
      · gi_wp2
        refine round_still_tail 11 (by kernel_rfl) (by kernel_rfl) (by kernel_rfl) ?_
        simp only [List.take_succ_cons, List.take_zero, List.drop_succ_cons, List.drop_zero]
        repeat still_step
        refine wpStill_nil ?_
        clear wa wb
        gi_wp2
        all_goals
          refine ⟨(KeepsOthers.drew _).trans (KeepsOthers.setCell _ _ _), ⟨Below.heap_setCell W.drew ⟨w1.heap.size, 0, none⟩ _ _ (by show w1.heap.size + 1 ≠ w1.heap.size; omega), Below.heap_setCell W.drew ⟨w1.heap.size, 0, none⟩ _ _ (by exact hbT)⟩, ⟨(World.cell?_setCell_same' _ _ _ (by simp [hc])).trans ?_, (World.frozen?_setCell _ _ _ _).trans hf⟩, hB.drew.setCell (p := ⟨w1.heap.size, 0, none⟩) (Nat.le_refl _) _⟩
          rw [HSN.out, HOV.out]
          exact congrArg (fun z => some (Value.int .i64 z)) (by unfold ovI; omega)
      · gi_wp2
        refine round_still_tail 11 (by kernel_rfl) (by kernel_rfl) (by kernel_rfl) ?_
        simp only [List.take_succ_cons, List.take_zero, List.drop_succ_cons, List.drop_zero]
        repeat still_step
        refine wpStill_nil ?_
        clear wa wb
        gi_wp2
        all_goals
          refine ⟨(KeepsOthers.drew _).trans (KeepsOthers.setCell _ _ _), ⟨Below.heap_setCell W.drew ⟨w1.heap.size, 0, none⟩ _ _ (by show w1.heap.size + 1 ≠ w1.heap.size; omega), Below.heap_setCell W.drew ⟨w1.heap.size, 0, none⟩ _ _ (by exact hbT)⟩, ⟨(World.cell?_setCell_same' _ _ _ (by simp [hc])).trans ?_, (World.frozen?_setCell _ _ _ _).trans hf⟩, hB.drew.setCell (p := ⟨w1.heap.size, 0, none⟩) (Nat.le_refl _) _⟩
          rw [HSN.out, HOV.out]
          exact congrArg (fun z => some (Value.int .i64 z)) (by unfold ovI; omega)
  case done =>
    rintro D ys W hD rfl ⟨⟨hc, hf⟩, hB⟩ hK
    obtain ⟨_, _, q2, q3, qB, _⟩ := cnt_facts hb1 W hB
    gi_wp2
    refine ⟨by simp, .inl ⟨_, _, rfl, run_takeDeferred hK, ?_⟩⟩
    exact ⟨_, results_tmp2 rfl _ _ _, by rw [HV.out, HE.out]; rfl, qB.trans ((belowK_b (w := w1) (Nat.le_refl _) W D _ _ (by rw [hsz] at hD; omega) hK rfl rfl).mono (by omega))⟩
  case stop =>
    rintro D c pre W _ _ h _
    exact h.elim

theorem count_out (L : Nat) (p : Option Addr) (m cap : Nat) (es : List Nat) (fr n : Int) (w : World) (hL : L ≤ 1048576) (hf : fr ≤ 9223372036854775807) (hw : withinB L fr n = false) :
    Calls Tryz.prog 61 #[.agg #[.int .i64 L, .slice p m cap], .int .i64 fr, .int .i64 n] w (CountPost L es fr n w) := by
  have HV : Hid (countV L es fr n = 0) := Lib.hid (by unfold countV; rw [hw]; rfl)
  have HE : Hid (laidErr L fr n = 3) := Lib.hid (by unfold laidErr; rw [hw]; rfl)
  have HW := Lib.hid hw; clear hw
  go_enter Tryz.func61, Tryz.ntmps61
  go_wp2_with fail
  refine (within_any L hL p m cap _ _ hf _).mono ?_
  rw [HW.out]
  rintro e w1 ⟨rfl, hb1⟩
  obtain ⟨_, _, _, _, kB, _⟩ := cnt_facts hb1 w1 (Below.refl _ _)
  go_wp2_with fail
  go_ret2
  exact ⟨by rw [HV.out, HE.out]; rfl, kB⟩
theorem count_any (L : Nat) (p : Option Addr) (m cap : Nat) (es : List Nat) (fr n : Int) (w : World) (g : Good L es) (hm : m = es.length) (hrow : RowAt w p es) (hf : fr ≤ 9223372036854775807) :
    Calls Tryz.prog 61 #[.agg #[.int .i64 L, .slice p m cap], .int .i64 fr, .int .i64 n] w (CountPost L es fr n w) := by
  cases hw : withinB L fr n with
  | false => exact count_out L p m cap es fr n w g.small hf hw
  | true => exact callsIn_wide.1 (count_in L p m cap es fr n w g hm hrow hw)
end Go.Proofs.YtmnhpmgffhpoeaaGreat.Bt
