/- The contract of the third layer's example; what no arena answers; how many pages are committed. -/
import Derived.Test.YtmnhpmgffhpoeaaGreatArBytes
namespace Go.Proofs.YtmnhpmgffhpoeaaGreat.Bt
open Go Go.RowKit Go.Shelf
set_option linter.unusedVariables false

theorem awake2 (w : World) : Calls Tryz.prog 100 #[] w fun e w' => e = .returned (.bool true) ∧ Below w.heap.size w w' := by
  go_enter Tryz.func100, Tryz.ntmps100
  go_wp2_with fail
  refine (awake_calls _).mono ?_
  rintro e w1 ⟨rfl, hb⟩
  go_wp2_with fail
  go_ret
  exact ⟨rfl, hb⟩

theorem awake3_calls (w : World) : Calls Tryz.prog 95 #[] w fun e w' => e = .returned (.bool true) ∧ Below w.heap.size w w' := by
  have l2 : lenN 2 = 2 := by decide
  have e1 : commitE (newS 2) 1 1 = 0 := by decide
  have e2 : numE 2 [1, 2] 4096 2 = 0 := by decide
  have e3 : thereE 2 [1, 2] 4096 3 = 0 := by decide
  have e4 : numE 2 [1, 2] 4095 1 = 3 := by decide
  have s1 : commitS (newS 2) 1 1 = ⟨2, [1, 2], fun _ => 0, false, 0⟩ := by
    unfold commitS
    rw [if_neg (by decide), show refB (newS 2) = false from rfl]
    show ASt.mk _ _ _ _ _ = _
    rw [show laidS (newS 2).L (newS 2).es 1 1 true = [1, 2] from by decide]; rfl
  have s2 : storeS ⟨2, [1, 2], fun _ => 0, false, 0⟩ 4096 2 258 = ⟨2, [1, 2], putM (fun _ => 0) 4096 [2, 1], false, 0⟩ := by
    unfold storeS
    rw [if_pos (by decide)]
    rfl
  have g3 : strL (getM (putM (fun _ => 0) 4096 [2, 1]) (4096 : Int).toNat (3 : Int).toNat) = ⟨#[2, 1, 0]⟩ := by decide
  have L2 := Lib.hid l2; have E1 := Lib.hid e1; have E2 := Lib.hid e2; have E3 := Lib.hid e3; have E4 := Lib.hid e4; have S1 := Lib.hid s1; have S2 := Lib.hid s2; have G3 := Lib.hid g3
  clear l2 e1 e2 e3 e4 s1 s2 g3
  go_enter Tryz.func95, Tryz.ntmps95
  go_wp2_with fail
  refine (arena_new 2 _).mono ?_
  rintro e w1 ⟨A, P, rfl, hA, hP, hx, hb1⟩
  rw [L2.out] at hx
  have hx0 := Lib.hid hx
  have hn0 : ∀ i b : Nat, (List.replicate 2 (none : Option Nat))[i]? = some (some b) → w.heap.size ≤ b := fun i b h => by
    rw [List.getElem?_replicate] at h; split at h <;> cases h
  clear hx
  go_wp2_with fail
  refine (commit_any hx0.out 1 1 (by omega)).mono ?_
  rintro e w2 ⟨rfl, ht⟩
  rw [E1.out]; rw [S1.out] at ht
  have ht2 := Lib.hid (ht.at hb1.size hA hP hn0)
  clear ht
  obtain ⟨P2, ps2, p2, n2, c2, hx2, hA2, hP2, hps2⟩ := ht2.out.1
  have HX2 := Lib.hid hx2
  have B2 := hb1.trans ht2.out.2
  clear hx2
  go_wp2_with fail
  refine (store_any HX2.out 4096 2 258 (by omega) (by omega)).mono ?_
  rintro e w3 ⟨rfl, ht⟩
  rw [S2.out] at ht
  have ht3 := Lib.hid (ht.at B2.size hA2 hP2 hps2)
  clear ht
  obtain ⟨P3, ps3, p3, n3, c3, hx3, hA3, hP3, hps3⟩ := ht3.out.1
  have HX3 := Lib.hid hx3
  have B3 := B2.trans ht3.out.2
  clear hx3
  have E2' : Hid (numE (ASt.mk 2 [1, 2] (fun _ => 0) false 0).L (ASt.mk 2 [1, 2] (fun _ => 0) false 0).es 4096 2 = 0) := E2
  rw [E2'.out]
  go_wp2_with fail
  refine (bytes_any HX3.out 4096 3 (by omega)).mono ?_
  rintro e w4 ⟨rfl, hb4⟩
  have hx4 := HX3.out.below hb4
  have HX4 := Lib.hid hx4
  have B4 := B3.trans (hb4.mono B3.size)
  clear hx4
  have E3' : Hid (thereE (ASt.mk 2 [1, 2] (putM (fun _ => 0) 4096 [2, 1]) false 0).L (ASt.mk 2 [1, 2] (putM (fun _ => 0) 4096 [2, 1]) false 0).es 4096 3 = 0) := E3
  rw [E3'.out, if_pos rfl]
  have G3' : Hid (strL (getM (ASt.mk 2 [1, 2] (putM (fun _ => 0) 4096 [2, 1]) false 0).mm (4096 : Int).toNat (3 : Int).toNat) = ⟨#[2, 1, 0]⟩) := G3
  rw [G3'.out]
  go_wp2_with fail
  refine (load_any HX4.out 4095 1 (by omega)).mono ?_
  rintro e w5 ⟨rfl, hb5⟩
  have B5 := B4.trans (hb5.mono B4.size)
  have E4' : Hid (numE (ASt.mk 2 [1, 2] (putM (fun _ => 0) 4096 [2, 1]) false 0).L (ASt.mk 2 [1, 2] (putM (fun _ => 0) 4096 [2, 1]) false 0).es 4095 1 = 3) := E4
  rw [E4'.out, if_neg (by decide)]
  go_wp2_with fail
  refine (awake2 _).mono ?_
  rintro e w6 ⟨rfl, hb6⟩
  go_wp2_with fail
  go_ret
  exact ⟨rfl, B5.trans (hb6.mono B5.size)⟩
end Go.Proofs.YtmnhpmgffhpoeaaGreat.Bt
