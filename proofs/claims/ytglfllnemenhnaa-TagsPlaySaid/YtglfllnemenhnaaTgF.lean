/- The statements' example; TagsNone. -/
import Derived.Test.YtglfllnemenhnaaTgE
namespace Go.Proofs.Ytglfllnemenhnaa.Bt
open Go Go.RowKit Go.Shelf
set_option linter.unusedVariables false

def exS : ASt := layS (fullS 1 (fun _ => 0)) 98 2 3 1 1
theorem exS_full : exS = fullS 1 (layM (fun _ => 0) 98 2 3 1 1) := rfl
theorem ex_run : runV (gC exS 96 8) 3 = .tuple #[.int .i64 2, tagV 3 1, .int .i64 0] := by
  have h1 : runF (gC exS 96 8) 3 = 2 := by decide +kernel
  have h2 : gC exS 96 8 2 = 7 := by decide +kernel
  have h3 : runOk (gC exS 96 8) 3 = true := by unfold runOk; rw [h1, h2]; decide +kernel
  unfold runV
  rw [if_pos h3, h1, h2]
  rfl
set_option maxHeartbeats 2000000 in
theorem awake6 (w : World) : Calls Try.prog 30 #[] w (Gives (.bool true) w) := by
  have R1 := Lib.hid ex_run
  have G1 : Hid (gE exS 96 8 3 = 0) := Lib.hid (by decide +kernel)
  have L1 : Hid (layA 96 8 2 1 = ((98 : Nat) : Int)) := Lib.hid (by decide)
  have L2 : Hid (layE (fullS 1 (fun _ => 0)) 96 8 2 1 = 0) := Lib.hid (by decide +kernel)
  go_enter Try.func30, Try.ntmps30
  go_wp2_with fail
  refine (lopen_any 8 (by omega) _).mono ?_
  rintro e w1 ⟨A, rfl, hx, hb⟩
  have HX1 := Lib.hid hx
  have HB1 := Lib.hid hb
  clear hx hb
  go_wp2_with fail
  have bV := Lib.hid (bel1 w1 (.cells #[.pointer (some ⟨A, 0, none⟩), .int .i64 96, .int .i64 8] 72))
  have HM := Lib.hid (Mine.new HX1.out (.cells #[.pointer (some ⟨A, 0, none⟩), .int .i64 96, .int .i64 8] 72))
  have HR := Lib.hid (heap_new w1 (.cells #[.pointer (some ⟨A, 0, none⟩), .int .i64 96, .int .i64 8] 72))
  refine (tlay_yes (HX1.out.below bV.out) 96 8 (by omega) (by omega) 2 3 1 98 2 (by omega) (by omega) 3 1 1 (.inl ⟨rfl, rfl, rfl, rfl⟩) rfl L1.out L2.out).mono ?_
  rintro e w2 ⟨rfl, hx, hg⟩
  have hr := HM.out.at hg HR.out
  have c0 := (cell_blk hr 0).1; have c1 := (cell_blk hr 1).1; have c2 := (cell_blk hr 2).1
  have HX2 : Hid (On A exS w2) := Lib.hid hx
  have HB2 := Lib.hid ((HB1.out.below HX1.out bV.out).went hg)
  clear hr hx hg HM HR
  go_wp2_with fail
  refine (trun_on HX2.out 96 8 (by omega) (by omega) 3 (by omega) (by omega) G1.out).mono ?_
  rintro e w3 ⟨rfl, hb⟩
  rw [R1.out]
  have HX3 := Lib.hid (HX2.out.below hb)
  have HB3 := Lib.hid (HB2.out.below HX2.out hb)
  clear hb c0 c1 c2
  go_wp2_with fail
  have bT := Lib.hid (bel1 w3 (.cells #[.int .u8 3, .int .u8 1] 86))
  refine (awake4 _).mono ?_
  rintro e w4 ⟨rfl, hb⟩
  have hr := pair_at hb (heap_new w3 (.cells #[.int .u8 3, .int .u8 1] 86))
  have c0 := (cell_blk hr 0).1; have c1 := (cell_blk hr 1).1
  have HF := Lib.hid ((HB3.out.below HX3.out bT.out).below (HX3.out.below bT.out) hb)
  clear hb hr
  go_wp2_with fail
  go_ret
  exact ⟨rfl, HF.out.bel⟩
abbrev tb0 : Value := .agg #[.pointer none, .int .i64 0, .int .i64 0]
set_option maxHeartbeats 4000000 in
set_option maxRecDepth 100000 in
theorem tagsNone_all (w : World) : Calls Try.prog 6 #[] w (TrueAt w) := by
  go_enter Try.func6, Try.ntmps6
  go_wp2_with fail
  refine (topen_any none 0 0 _).mono ?_
  rintro e w1 ⟨rfl, hb1⟩
  go_wp2_with fail
  have b2 := Lib.hid (hb1.alloc hb1.size (.cells #[.pointer none, .int .i64 0, .int .i64 0] 72))
  have hv := heap_new w1 (.cells #[.pointer none, .int .i64 0, .int .i64 0] 72)
  refine (tget_nil 0 (by omega)).mono ?_
  rintro e w2 ⟨rfl, hb⟩
  have hv2 := VT.below hv hb
  have b3 := Lib.hid (b2.out.trans (hb.mono b2.out.size))
  have hv3 := VT.below hv2 (bel1 w2 (.cells #[.int .u8 0, .int .u8 0] 86))
  have c0 := (cell_blk hv3 0).1; have c1 := (cell_blk hv3 1).1; have c2 := (cell_blk hv3 2).1
  have hlt : w1.heap.size < w2.heap.size := (Array.getElem?_eq_some_iff.1 hv2).1
  have HV2 := Lib.hid hv2
  have HLT := Lib.hid hlt
  clear hv hv2 hv3 hb hb1 hlt
  go_wp2_with fail
  have b4 := Lib.hid (b3.out.alloc b3.out.size (.cells #[.int .u8 0, .int .u8 0] 86))
  have hv3 := VT.below HV2.out (bel1 w2 (.cells #[.int .u8 0, .int .u8 0] 86))
  have hx3 := heap_new w2 (.cells #[.int .u8 0, .int .u8 0] 86)
  refine (trun_nil 0 (by omega)).mono ?_
  rintro e w3 ⟨rfl, hb⟩
  have b5 := Lib.hid (b4.out.trans (hb.mono b4.out.size))
  have hv4 := VT.below hv3 hb
  have hx4 := pair_at hb hx3
  have hlt2 : w2.heap.size < w3.heap.size := (Array.getElem?_eq_some_iff.1 hx4).1
  have HL := Lib.hid (And.intro hv4 (And.intro hx4 hlt2))
  clear c0 c1 c2 hv3 hx3 hb hv4 hx4 hlt2
  go_wp2_with fail
  have b6 := Lib.hid (b5.out.alloc b5.out.size (.cells #[.int .u8 0, .int .u8 0] 86))
  have hR : RR w1.heap.size w2.heap.size w3.heap.size none 0 0 0 0 0 0 (w3.alloc (.cells #[.int .u8 0, .int .u8 0] 86)) :=
    ⟨VT.below HL.out.1 (bel1 _ _), pair_at (bel1 _ _) HL.out.2.1, heap_new _ _, by have := HLT.out; omega, by have := HLT.out; have := HL.out.2.2; omega, by have := HL.out.2.2; omega⟩
  obtain ⟨V, hV⟩ : ∃ V, w1.heap.size = V := ⟨_, rfl⟩
  obtain ⟨X, hX⟩ : ∃ X, w2.heap.size = X := ⟨_, rfl⟩
  obtain ⟨Y, hY⟩ : ∃ X, w3.heap.size = X := ⟨_, rfl⟩
  obtain ⟨w4, hw4⟩ : ∃ x, w3.alloc (.cells #[.int .u8 0, .int .u8 0] 86) = x := ⟨_, rfl⟩
  rw [hw4, hV, hX, hY] at hR
  rw [hw4] at b6
  rw [hw4, hV, hX, hY]
  clear hw4 hV hX hY HL HLT b5 b4 b3 b2 HV2
  refine (awake6 _).mono ?_
  rintro e w5 ⟨rfl, hb⟩
  have b7 := Lib.hid (b6.out.trans (hb.mono b6.out.size))
  have hR5 := Lib.hid (hR.below hb)
  obtain ⟨c0, c1, c2, c3, c4, c5, c6, f3, f4, f5, f6⟩ := hR5.out.all
  clear hR hb b6
  go_wp2_with fail
  refine (tlen_any none 0 0 _).mono ?_
  rintro e w6 ⟨rfl, hb⟩
  have b8 := Lib.hid (b7.out.trans (hb.mono b7.out.size))
  have hR6 := Lib.hid (hR5.out.below hb)
  clear c0 c1 c2 c3 c4 c5 c6 f3 f4 f5 f6 hb b7 hR5
  obtain ⟨c0, c1, c2, c3, c4, c5, c6, f3, f4, f5, f6⟩ := hR6.out.all
  go_wp2_with fail
  refine (tlay_nil 0 0 1).mono ?_
  rintro e w7 ⟨rfl, hb⟩
  have b9 := Lib.hid (b8.out.trans (hb.mono b8.out.size))
  clear c0 c1 c2 c3 c4 c5 c6 f3 f4 f5 f6 hb b8 hR6
  go_wp2_with fail
  go_ret
  exact ⟨rfl, b9.out⟩
end Go.Proofs.Ytglfllnemenhnaa.Bt
