/- The example of layer 5. -/
import Derived.Test.YtdmaendhkenmgaaFdD
import Derived.Test.YtdmaendhkenmgaaFdA
namespace Go.Proofs.Ytdmaendhkenmgaa.Bt
open Go Go.RowKit Go.Shelf
set_option linter.unusedVariables false
set_option linter.unusedSimpArgs false

theorem wpList_load_row_if {P : Program} {ops : Array Oper} {rest : List Oper} {o : Oper} {a : Act} {w : World} {Q : Exit → Act → World → Prop} (hw : Region.wanted o (yielded ops a.tmps) = true) (ty : TypeId) (x : Operand) (ho : o.op = .load ty x)
    (g : Nat) (hx : a.eval x = .pointer (some ⟨g, 0, none⟩)) (t : TypeId) (cs : Array Value) (fr : Nat × Nat) (d : TypeDesc) (hg : w.heap[g]? = some (.cells cs t fr))
    (hu : P.underlying ty = some d) (hd : (match d with | .struct _ | .array _ _ => true | _ => false) = true) (hi : (P.info? ty).map (·.size) = some cs.size)
    (h : wpList P ops Q rest (a.put o.dst (.agg cs)) w) : wpList P ops Q (o :: rest) a w :=
  wpList_step fun K hK => by rw [if_pos hw]; exact wp_load_row ty x ho g hx t cs fr d hg hu hd hi (hK _ _ h)
def exF : Nat → Nat := fP [1, 2, 8] 3
theorem ex_ok : okV [1, 2, 8] = .tuple #[.agg (recC 3 exF), .int .i64 0] := rfl
set_option maxRecDepth 100000 in
set_option maxHeartbeats 4000000 in
theorem awake5_calls (w : World) : Calls Try.prog 137 #[] w (Gives (.bool true) w) := by
  have HSZ : Hid (∀ f, (Try.prog.info? 136).map (·.size) = some (recC 3 f).size) := Lib.hid (fun f => by rw [recC_size]; exact Try.infoRec)
  have F1 : Hid (exF 1 = 1 ∧ exF 2 = 3 ∧ atF 3 exF 2 = 3) := Lib.hid (by decide)
  have HX := Lib.hid ex_ok
  go_enter Try.func137, Try.ntmps137
  go_wp2_with fail
  have hws : WsAt (w.alloc (.cells #[.int .i64 1, .int .i64 2, .int .i64 8] 3)) (some ⟨w.heap.size, 0, none⟩) [1, 2, 8] := by
    refine .inr ⟨w.heap.size, 0, rfl, by simp, fun i hi => ?_⟩
    rw [(cell_blk (heap_new w _) _).1, Nat.zero_add]
    have : i = 0 ∨ i = 1 ∨ i = 2 := by simp at hi; omega
    rcases this with rfl | rfl | rfl <;> rfl
  refine (of_in _ 3 3 [1, 2, 8] rfl (by omega) (by omega) _ hws).mono ?_
  rintro e w1 ⟨rfl, hb⟩
  rw [HX.out]
  have B1 := Lib.hid ((bel1 w (.cells #[.int .i64 1, .int .i64 2, .int .i64 8] 3)).trans (hb.mono (by simp)))
  clear hws hb
  go_upto_region 2 with (refine wpList_store_row rfl 136 (.tmp 1) (.tmp 11) rfl w1.heap.size (recC 3 exF) rfl rfl 136 rec0 (heap_new _ _) (HSZ.out _) (by rw [rec0_size, recC_size]) (rec_one _ _) ?_; simp only [Act.put, List.setIfInBounds_toArray, List.set_cons_zero, List.set_cons_succ])
  obtain ⟨y, hy⟩ : ∃ y, (w1.alloc (.cells rec0 136)).setRow w1.heap.size (recC 3 exF) = y := ⟨_, rfl⟩
  obtain ⟨R1, hR1⟩ : ∃ B, w1.heap.size = B := ⟨_, rfl⟩
  have hv : VR R1 3 exF y := by unfold VR; rw [← hy, ← hR1]; exact setRow_ad (heap_new _ _) _
  have by_ : Below w.heap.size w y := by rw [← hy]; exact below_setRow (B1.out.alloc B1.out.size _) B1.out.size _
  change Code.wp _ _ _ _ ((w1.alloc (.cells rec0 136)).setRow w1.heap.size (recC 3 exF))
  rw [hy, hR1]
  have HV := Lib.hid hv; have BY := Lib.hid by_
  clear hv by_ hy hR1 B1
  go_wp2_with fail
  refine (page_any 20 (by omega) _).mono ?_
  rintro e w2 ⟨A, b, rfl, ho⟩
  have HO2 : Hid (OB A (fullS 1 (fun _ => 0)) w w2) := Lib.hid ⟨ho.o, ho.b.rebase BY.out⟩
  have HV2 := Lib.hid (VR.below HV.out ho.b.bel)
  clear ho HV BY
  go_upto_region 3 with fail
  obtain ⟨q1, q2, q3⟩ := three_new w2 #[.pointer (some ⟨A, 0, none⟩), .int .i64 10, .int .i64 20] #[.slice (some ⟨b, 0, none⟩) 1 1, .int .i64 (-1)] #[.int .i64 10, .int .i64 20] 55 30 61
  have hb3 := (three_blocks w2 #[.pointer (some ⟨A, 0, none⟩), .int .i64 10, .int .i64 20] #[.slice (some ⟨b, 0, none⟩) 1 1, .int .i64 (-1)] #[.int .i64 10, .int .i64 20] 55 30 61).2
  have hrv : RV R1 w2.heap.size 3 exF A 10 20 _ := ⟨HV2.out.below hb3, q1⟩
  have HOx := Lib.hid (HO2.out.below hb3)
  obtain ⟨x, hx⟩ : ∃ x, (((w2.alloc (.cells #[.pointer (some ⟨A, 0, none⟩), .int .i64 10, .int .i64 20] 55)).alloc (.cells #[.slice (some ⟨b, 0, none⟩) 1 1, .int .i64 (-1)] 30)).alloc (.cells #[.int .i64 10, .int .i64 20] 61)) = x := ⟨_, rfl⟩
  obtain ⟨V, hV⟩ : ∃ V, w2.heap.size = V := ⟨_, rfl⟩
  rw [hx] at hrv HOx ⊢
  rw [hV] at hrv ⊢
  have HR := Lib.hid hrv
  clear hx hV q1 q2 q3 hb3 hrv HV2 HO2
  go_wp2_with fail
  refine (awake4 _).mono ?_
  rintro e w3 ⟨rfl, hb⟩
  have HR3 := Lib.hid (HR.out.below hb)
  have HO3 := Lib.hid (HOx.out.below hb)
  clear hb HR HOx
  go_wp2_with (refine wpList_load_row_if rfl 136 (.tmp 1) rfl R1 rfl 136 (recC 3 exF) (0, 0) _ HR3.out.1 Try.underlying136 rfl (HSZ.out _) ?_)
  refine (fat_any 3 exF (by omega) 2 _).mono ?_
  rintro e w4 ⟨rfl, hb⟩
  rw [F1.out.2.2]
  have HR4 := Lib.hid (HR3.out.below hb)
  have HO4 := Lib.hid (HO3.out.below hb)
  clear hb HR3 HO3
  have c0 := (cell_blk HR4.out.2 0).1; have c1 := (cell_blk HR4.out.2 1).1; have c2 := (cell_blk HR4.out.2 2).1
  go_wp2_with (refine wpList_load_row_if rfl 136 (.tmp 1) rfl R1 rfl 136 (recC 3 exF) (0, 0) _ HR4.out.1 Try.underlying136 rfl (HSZ.out _) ?_)
  refine (fset_long 3 exF 10 20 (by omega) 1 (by omega) (by decide) (by decide) (by decide) 65536 (by omega) (by omega) (by decide)).mono ?_
  rintro e w5 ⟨rfl, hb⟩
  have HR5 := Lib.hid (HR4.out.below hb)
  have HO5 := Lib.hid (HO4.out.below hb)
  clear hb HR4 HO4 c0 c1 c2
  have c0 := (cell_blk HR5.out.2 0).1; have c1 := (cell_blk HR5.out.2 1).1; have c2 := (cell_blk HR5.out.2 2).1
  go_wp2_with (refine wpList_load_row_if rfl 136 (.tmp 1) rfl R1 rfl 136 (recC 3 exF) (0, 0) _ HR5.out.1 Try.underlying136 rfl (HSZ.out _) ?_)
  refine (fset_on HO5.out.o 3 exF 10 20 (by omega) (by omega) (by omega) 1 (by omega) (by decide) (by decide) (by decide) 65535 (by omega) (by omega) (by decide)).mono ?_
  rintro e w6 ⟨rfl, hx, hg⟩
  have HF := Lib.hid (HO5.out.b.went hg)
  have hz : numE (fullS 1 (fun _ => 0)).L (fullS 1 (fun _ => 0)).es (addrV 10 20 (exF 1 : Nat) (exF (1 + 1) - exF 1 : Nat)) (exF (1 + 1) - exF 1 : Nat) = 0 := by decide +kernel
  rw [hz]
  clear hx hg c0 c1 c2 HR5 HO5 hz
  go_wp2_with fail
  go_ret
  exact ⟨rfl, HF.out.bel⟩
theorem awake5 (w : World) : Calls Try.prog 137 #[] w (TrueAt w) := awake5_calls w
end Go.Proofs.Ytdmaendhkenmgaa.Bt
