/- The contract of a table's Lay where it lays. -/
import Derived.Test.YtglfllnemenhnaaTgB
import Derived.Deep.DeepCutAuto
namespace Go.Proofs.Ytglfllnemenhnaa.Bt
open Go Go.RowKit Go.Shelf
set_option linter.unusedVariables false

/-- a view's variable and two tags -/
def LL (R T1 T2 A an N : Nat) (a b c d : Int) (x : World) : Prop := VC R (some ⟨A, 0, none⟩) an N x ∧ x.heap[T1]? = some (.cells #[.int .u8 a, .int .u8 b] 86 (0, 0)) ∧ x.heap[T2]? = some (.cells #[.int .u8 c, .int .u8 d] 86 (0, 0))
theorem LL.below {R T1 T2 A an N : Nat} {a b c d : Int} {x y : World} (h : LL R T1 T2 A an N a b c d x) (hb : Below x.heap.size x y) : LL R T1 T2 A an N a b c d y := ⟨h.1.below hb, pair_at hb h.2.1, pair_at hb h.2.2⟩
theorem LL.went {R T1 T2 A an N : Nat} {a b c d : Int} {x y : World} {s : ASt} (h : LL R T1 T2 A an N a b c d x) (ho : On A s x) (hg : Went A x y) : LL R T1 T2 A an N a b c d y :=
  ⟨hg.keep ho h.1 (by decide) (by decide) (by decide), hg.keep ho h.2.1 (by decide) (by decide) (by decide), hg.keep ho h.2.2 (by decide) (by decide) (by decide)⟩
theorem LL.all {R T1 T2 A an N : Nat} {a b c d : Int} {x : World} (h : LL R T1 T2 A an N a b c d x) :
    x.cell? ⟨R, 0, none⟩ = some (.pointer (some ⟨A, 0, none⟩)) ∧ x.cell? ⟨R, 1, none⟩ = some (.int .i64 (an : Int)) ∧ x.cell? ⟨R, 2, none⟩ = some (.int .i64 (N : Int)) ∧
    x.cell? ⟨T1, 0, none⟩ = some (.int .u8 a) ∧ x.cell? ⟨T1, 1, none⟩ = some (.int .u8 b) ∧ x.cell? ⟨T2, 0, none⟩ = some (.int .u8 c) ∧ x.cell? ⟨T2, 1, none⟩ = some (.int .u8 d) ∧ LL R T1 T2 A an N a b c d x :=
  ⟨(cell_blk h.1 0).1, (cell_blk h.1 1).1, (cell_blk h.1 2).1, (cell_blk h.2.1 0).1, (cell_blk h.2.1 1).1, (cell_blk h.2.2 0).1, (cell_blk h.2.2 1).1, h⟩
section
variable {A : Nat} {s : ASt} {w : World}
/-- what the table is behind a run that is laid -/
def layM (m : Nat → UInt8) (an N : Nat) (fs fo : Int) (os : UInt8) : Nat → UInt8 := putM (putM m an (List.replicate N os)) an (numB (codeI fs fo) 1)
def layS (s : ASt) (an N : Nat) (fs fo : Int) (os : UInt8) : ASt := { s with mm := layM s.mm an N fs fo os }
set_option maxRecDepth 100000 in
set_option maxHeartbeats 4000000 in
theorem tlay_yes (h : On A s w) (va vs : Nat) (h1 : va ≤ 4294967296) (h2 : vs ≤ 4294967296) (i st : Int) (on an N : Nat) (hi : i ≤ 9223372036854775807) (s2 : (on : Int) ≤ 10) (fs fo : Int) (os : UInt8)
    (hb : (begB st = true ∧ fs = st ∧ fo = on ∧ os = 1) ∨ (st = 0 ∧ fs = 0 ∧ fo = 0 ∧ os = 0)) (hNN : 2 ^ on = N) (han : layA va vs i on = an) (he : layE s va vs i on = 0) :
    Calls Try.prog 32 #[tbP (some ⟨A, 0, none⟩) va vs, .int .i64 i, .int .i64 on, .int .u8 st] w (Ret A (layS s an N fs fo os) (.int .i64 0) w) := by
  have s1 : 0 ≤ (on : Int) := by omega
  have HO := Lib.hid h
  obtain ⟨hN, hN1, hN2⟩ := pow_n on s2
  unfold layE at he
  rw [han] at he
  unfold layA at han
  rw [hNN] at hN hN1 hN2 han he
  have HE := Lib.hid he
  have HN := Lib.hid hN
  have HA := Lib.hid han
  have h3 : an ≤ 4294967296 := by
    have := addrV_le h1 h2 i N
    have hh := (there_iff h.good an N).1 (by unfold thereE at he; cases hq : thereB s.L s.es an N with
      | true => rfl
      | false => rw [hq] at he; cases he)
    have := h.good.small
    omega
  have h4 : N ≤ 4294967296 := by omega
  have hk : Hid ((begB st = true ∧ fs = st ∧ fo = on ∧ os = 1) ∨ (st = 0 ∧ fs = 0 ∧ fo = 0 ∧ os = 0)) := Lib.hid hb
  clear h he hN hNN han hb
  have HB := Lib.hid ((Below.refl w.heap.size w).alloc (Nat.le_refl _) (.cells #[.pointer (some ⟨A, 0, none⟩), .int .i64 (va : Int), .int .i64 (vs : Int)] 72))
  have H0 : Hid (begB 0 = false) := Lib.hid rfl
  have HV : Hid (∀ pu a k, ofV pu a k 0 = .agg #[.pointer pu, .int .i64 a, .int .i64 k]) := Lib.hid fun pu a k => by unfold ofV; rw [if_pos rfl]
  go_enter Try.func32, Try.ntmps32
  rcases hk.out with ⟨hb, rfl, rfl, rfl⟩ | ⟨rfl, rfl, rfl, rfl⟩
  rotate_left
  go_upto_region 5 with (go_at_call 90; refine (tbeg_any _ _).mono ?_; rintro e w' ⟨rfl, rfl⟩; rw [H0.out])
  rotate_left
  have k3 : fs = 2 ∨ fs = 3 := by unfold begB at hb; simpa using hb
  have d0 : (fs == 0) = false := by rcases k3 with rfl | rfl <;> rfl
  have k4 : 0 ≤ fs ∧ fs ≤ 3 := by omega
  obtain ⟨k5, k6⟩ := k4
  have KB := Lib.hid hb
  clear hb k3
  go_upto_region 5 with (go_at_call 90; refine (tbeg_any _ _).mono ?_; rintro e w' ⟨rfl, rfl⟩; rw [KB.out])
  all_goals
    have HH : VT w.heap.size (some ⟨A, 0, none⟩) va vs (w.alloc (.cells #[.pointer (some ⟨A, 0, none⟩), .int .i64 (va : Int), .int .i64 (vs : Int)] 72)) := heap_new _ _
    obtain ⟨w1, hw1⟩ : ∃ w1, w.alloc (.cells #[.pointer (some ⟨A, 0, none⟩), .int .i64 (va : Int), .int .i64 (vs : Int)] 72) = w1 := ⟨_, rfl⟩
    rw [hw1] at HH HB ⊢
    clear hw1 hk
    obtain ⟨B, hB⟩ : ∃ B, w.heap.size = B := ⟨_, rfl⟩
    rw [hB] at HH ⊢
    clear hB
    have hs1 := Lib.hid (show B < w1.heap.size from (Array.getElem?_eq_some_iff.1 HH).1)
    go_region_held3 (fun x => x.cell? ⟨B, 0, none⟩ = some (.pointer (some ⟨A, 0, none⟩)) ∧ x.cell? ⟨B, 1, none⟩ = some (.int .i64 (va : Int)) ∧ x.cell? ⟨B, 2, none⟩ = some (.int .i64 (vs : Int)) ∧ VT B (some ⟨A, 0, none⟩) va vs x)
      (first | exact (HH.below (Below.refl _ _).drew).all | exact (HH.below ((bel1 w1 (.cells #[.pointer none, .int .i64 0, .int .i64 0] 31)).drew)).all | assumption)
      (first | (go_at_call 66; rw [HN.out]; refine (on_part (HO.out.below ((HB.out.drew).mono (Nat.le_refl _))) va vs h1 h2 i N hi).mono ?_; rintro e w' ⟨rfl, hbb⟩; rw [HA.out, HE.out, HV.out]; have hnx := ((HH.below (Below.refl _ _).drew).below hbb).all; have hbw := (HB.out.drew).trans (hbb.mono HB.out.size); have hnz := (hnx.2.2.2.below (bel1 w' (.cells #[.pointer none, .int .i64 0, .int .i64 0] 31))).all; have hnv := (hnx.2.2.2.below (bel1 w' (.cells #[.pointer (some ⟨A, 0, none⟩), .int .i64 (an : Int), .int .i64 (N : Int)] 31))).all)
             | (go_at_call 66; rw [HN.out]; refine (on_part (HO.out.below (((HB.out.alloc HB.out.size (.cells #[.pointer none, .int .i64 0, .int .i64 0] 31)).drew).mono (Nat.le_refl _))) va vs h1 h2 i N hi).mono ?_; rintro e w' ⟨rfl, hbb⟩; rw [HA.out, HE.out, HV.out]; have hnx := ((HH.below ((bel1 w1 (.cells #[.pointer none, .int .i64 0, .int .i64 0] 31)).drew)).below hbb).all; have hbw := ((HB.out.alloc HB.out.size (.cells #[.pointer none, .int .i64 0, .int .i64 0] 31)).drew).trans (hbb.mono (HB.out.alloc HB.out.size (.cells #[.pointer none, .int .i64 0, .int .i64 0] 31)).size); have hR := (hbb.block w1.heap.size (by simp)).trans (heap_new w1 (.cells #[.pointer none, .int .i64 0, .int .i64 0] 31)); have r0 := (cell_blk hR 0).1; have r1 := (cell_blk hR 1).1; have r2 := (cell_blk hR 2).1; have f0 := (cell_blk hR 0).2; have f1 := (cell_blk hR 1).2; have f2 := (cell_blk hR 2).2; have hnz := (VT.far (R := w1.heap.size) (Nat.ne_of_lt hs1.out) hnx.2.2.2 (.pointer (some ⟨A, 0, none⟩)) (.int .i64 (an : Int)) (.int .i64 (N : Int))).all; have HR2 := Lib.hid hR; clear hR))
    all_goals
      have HBW := Lib.hid hbw
      clear HH hnx hnz hbw hbb
      first
        | (have VR : VC w'.heap.size (some ⟨A, 0, none⟩) an N (w'.alloc (.cells #[.pointer (some ⟨A, 0, none⟩), .int .i64 (an : Int), .int .i64 (N : Int)] 31)) := heap_new _ _
           have HBF := Lib.hid (HBW.out.alloc HBW.out.size (.cells #[.pointer (some ⟨A, 0, none⟩), .int .i64 (an : Int), .int .i64 (N : Int)] 31))
           obtain ⟨wF, hwF⟩ : ∃ x, w'.alloc (.cells #[.pointer (some ⟨A, 0, none⟩), .int .i64 (an : Int), .int .i64 (N : Int)] 31) = x := ⟨_, rfl⟩
           obtain ⟨R, hRR⟩ : ∃ x, w'.heap.size = x := ⟨_, rfl⟩
           rw [hwF] at VR HBF ⊢
           rw [hRR] at VR ⊢
           clear hwF hRR)
        | (have VR : VC w1.heap.size (some ⟨A, 0, none⟩) an N _ := three_set HR2.out rfl (.pointer (some ⟨A, 0, none⟩)) (.int .i64 (an : Int)) (.int .i64 (N : Int))
           have HBF := Lib.hid (((HBW.out.setCell (p := ⟨w1.heap.size, 0, none⟩) HB.out.size (.pointer (some ⟨A, 0, none⟩))).setCell (p := ⟨w1.heap.size, 1, none⟩) HB.out.size (.int .i64 (an : Int))).setCell (p := ⟨w1.heap.size, 2, none⟩) HB.out.size (.int .i64 (N : Int)))
           obtain ⟨wF, hwF⟩ : ∃ x, (((w'.setCell ⟨w1.heap.size, 0, none⟩ (.pointer (some ⟨A, 0, none⟩))).setCell ⟨w1.heap.size, 1, none⟩ (.int .i64 (an : Int))).setCell ⟨w1.heap.size, 2, none⟩ (.int .i64 (N : Int))) = x := ⟨_, rfl⟩
           obtain ⟨R, hRR⟩ : ∃ x, w1.heap.size = x := ⟨_, rfl⟩
           rw [hwF] at VR HBF ⊢
           rw [hRR] at VR ⊢
           clear hwF hRR r0 r1 r2 f0 f1 f2)
      go_upto_region 11 with fail
      first
        | (have bF2 := Lib.hid (below2 wF (.cells #[.int .u8 fs, .int .u8 (on : Int)] 86) (.cells #[.int .u8 1, .int .u8 0] 86))
           obtain ⟨q1, q2⟩ := pairs_new wF #[.int .u8 fs, .int .u8 (on : Int)] #[.int .u8 1, .int .u8 0] 86 86
           have HL : LL R wF.heap.size (wF.heap.size + 1) A an N fs (on : Int) 1 0 _ := ⟨VR.below bF2.out, q1, q2⟩
           obtain ⟨wG, hwG⟩ : ∃ x, (wF.alloc (.cells #[.int .u8 fs, .int .u8 (on : Int)] 86)).alloc (.cells #[.int .u8 1, .int .u8 0] 86) = x := ⟨_, rfl⟩
           rw [hwG] at HL bF2 ⊢
           clear hwG q1 q2 VR
           have HC2 : Hid (codeI 1 0 = (((1 : UInt8).toNat : Nat) : Int)) := Lib.hid rfl
           have HBG := Lib.hid (HBF.out.trans (bF2.out.mono HBF.out.size))
           obtain ⟨T1, hT1⟩ : ∃ x, wF.heap.size = x := ⟨_, rfl⟩
           obtain ⟨T2, hT2⟩ : ∃ x, T1 + 1 = x := ⟨_, rfl⟩
           rw [hT1] at HL ⊢
           rw [hT2] at HL ⊢
           clear hT1 hT2 HBF bF2
           have hA1 : Hid (addrV an N 0 N = (an : Int)) := Lib.hid (by unfold addrV; rw [if_pos (by omega)]; omega)
           have hA2 : Hid (addrV an N 0 1 = (an : Int)) := Lib.hid (by unfold addrV; rw [if_pos (by omega)]; omega)
           have HOG := Lib.hid (HO.out.below HBG.out)
           go_region_held3 (fun x => x.cell? ⟨R, 0, none⟩ = some (.pointer (some ⟨A, 0, none⟩)) ∧ x.cell? ⟨R, 1, none⟩ = some (.int .i64 (an : Int)) ∧ x.cell? ⟨R, 2, none⟩ = some (.int .i64 (N : Int)) ∧ x.cell? ⟨T1, 0, none⟩ = some (.int .u8 fs) ∧ x.cell? ⟨T1, 1, none⟩ = some (.int .u8 (on : Int)) ∧ x.cell? ⟨T2, 0, none⟩ = some (.int .u8 1) ∧ x.cell? ⟨T2, 1, none⟩ = some (.int .u8 0) ∧ LL R T1 T2 A an N fs (on : Int) 1 0 x)
             (first | exact (HL.below (Below.refl _ _).drew).all | assumption)
             (first | (go_at_call 69; refine (vsize_any (some ⟨A, 0, none⟩) an N _).mono ?_; rintro e x1 ⟨rfl, hb1⟩; have g1 := (HOG.out.below (Below.refl _ _).drew).below hb1; have k1 := ((HL.below (Below.refl _ _).drew).below hb1).all; have W1 := (Went.of_below HO.out (HBG.out.trans (((Below.refl _ _).drew.trans hb1).mono HBG.out.size))))
                    | (go_at_call 91; refine (tcode_any _ _ (by omega) (by omega) (by omega) (by omega) _).mono ?_; rintro e x2 ⟨rfl, hb2⟩; rw [HC2.out]; have g2 := g1.below hb2; have k2 := (k1.2.2.2.2.2.2.2.below hb2).all; have W2 := W1.trans (Went.of_below g1 hb2))
                    | (go_at_call 78; refine (on_fill g2 an N h3 h4 0 N (by omega) 1).mono ?_; rintro e x3 ⟨rfl, g3, hw3⟩; rw [hA1.out] at g3 ⊢; rw [HE.out]; have k3 := (k2.2.2.2.2.2.2.2.went g2 hw3).all; have W3 := W2.trans hw3))
           have HL3 := k3.2.2.2.2.2.2.2
           have HG3 := Lib.hid g3
           have HW3 := Lib.hid W3
           clear HL k1 k2 k3 g1 g2 g3 W1 W2 W3 hw3 HOG
           go_wp2_with fail
           have hfs : fillS s (an : Int) (N : Int) 1 = { s with mm := putM s.mm an (List.replicate N 1) } := by
             unfold fillS; rw [HE.out, if_pos rfl, Int.toNat_natCast, Int.toNat_natCast]
           rw [hfs] at HG3
           have hn1 : numE s.L s.es (an : Int) 1 = 0 := by
             have hg := HO.out.good
             have := there_part hg HE.out (b := (an : Int)) (k := 1) (by omega) (by omega) (by omega)
             unfold numE; rw [show wholeB 1 = true from rfl, if_pos rfl, this]
           have hst : storeS { s with mm := putM s.mm an (List.replicate N 1) } (an : Int) 1 (codeI fs (on : Int)) = layS s an N fs (on : Int) 1 := by
             unfold storeS; rw [show numE ({ s with mm := putM s.mm an (List.replicate N 1) } : ASt).L ({ s with mm := putM s.mm an (List.replicate N 1) } : ASt).es (an : Int) 1 = 0 from hn1, if_pos rfl, Int.toNat_natCast]; rfl
           have HN1 := Lib.hid hn1; have HST := Lib.hid hst
           have HWR : Hid (IntKind.u64.wrap (codeI fs (on : Int)) = codeI fs (on : Int)) := Lib.hid (by have := IntKind.wrap_u64 (codeI fs (on : Int)); unfold codeI at *; omega)
           have hc0 : 0 ≤ codeI fs (on : Int) := by unfold codeI; omega
           clear hfs hn1 hst
           go_region_held3 (fun x => x.cell? ⟨R, 0, none⟩ = some (.pointer (some ⟨A, 0, none⟩)) ∧ x.cell? ⟨R, 1, none⟩ = some (.int .i64 (an : Int)) ∧ x.cell? ⟨R, 2, none⟩ = some (.int .i64 (N : Int)) ∧ x.cell? ⟨T1, 0, none⟩ = some (.int .u8 fs) ∧ x.cell? ⟨T1, 1, none⟩ = some (.int .u8 (on : Int)) ∧ x.cell? ⟨T2, 0, none⟩ = some (.int .u8 1) ∧ x.cell? ⟨T2, 1, none⟩ = some (.int .u8 0) ∧ LL R T1 T2 A an N fs (on : Int) 1 0 x)
             (first | exact (HL3.below (Below.refl _ _).drew).all | assumption)
             (first | (go_at_call 91; refine (tcode_any _ _ (by omega) (by omega) (by omega) (by omega) _).mono ?_; rintro e x4 ⟨rfl, hb4⟩; have g4 := (HG3.out.below (Below.refl _ _).drew).below hb4; have k4 := ((HL3.below (Below.refl _ _).drew).below hb4).all; have W4 := (HW3.out.trans (Went.of_below HG3.out ((Below.refl _ _).drew.trans hb4))))
                    | (go_at_call 52; rw [HWR.out]; refine (on_store g4 an N h3 h4 0 1 _ (by omega) hc0).mono ?_; rintro e x5 ⟨rfl, g5, hw5⟩; rw [hA2.out] at g5 ⊢; rw [HST.out] at g5; have k5 := (k4.2.2.2.2.2.2.2.went g4 hw5).all; have W5 := W4.trans hw5))
           have HF := Lib.hid (And.intro g5 W5)
           clear HL3 k4 k5 g4 g5 W4 W5 hw5
           have hNN : numE ({ s with mm := putM s.mm an (List.replicate N 1) } : ASt).L ({ s with mm := putM s.mm an (List.replicate N 1) } : ASt).es (an : Int) 1 = 0 := HN1.out
           rw [hNN]
           go_wp2_with fail
           go_ret
           exact ⟨rfl, HF.out.1, HF.out.2⟩)
        | (have bF2 := Lib.hid (below2 wF (.cells #[.int .u8 0, .int .u8 0] 86) (.cells #[.int .u8 0, .int .u8 0] 86))
           obtain ⟨q1, q2⟩ := pairs_new wF #[.int .u8 0, .int .u8 0] #[.int .u8 0, .int .u8 0] 86 86
           have HL : LL R wF.heap.size (wF.heap.size + 1) A an N 0 0 0 0 _ := ⟨VR.below bF2.out, q1, q2⟩
           obtain ⟨wG, hwG⟩ : ∃ x, (wF.alloc (.cells #[.int .u8 0, .int .u8 0] 86)).alloc (.cells #[.int .u8 0, .int .u8 0] 86) = x := ⟨_, rfl⟩
           rw [hwG] at HL bF2 ⊢
           clear hwG q1 q2 VR
           have HC2 : Hid (codeI 0 0 = (((0 : UInt8).toNat : Nat) : Int)) := Lib.hid rfl
           have HBG := Lib.hid (HBF.out.trans (bF2.out.mono HBF.out.size))
           obtain ⟨T1, hT1⟩ : ∃ x, wF.heap.size = x := ⟨_, rfl⟩
           obtain ⟨T2, hT2⟩ : ∃ x, T1 + 1 = x := ⟨_, rfl⟩
           rw [hT1] at HL ⊢
           rw [hT2] at HL ⊢
           clear hT1 hT2 HBF bF2
           have hA1 : Hid (addrV an N 0 N = (an : Int)) := Lib.hid (by unfold addrV; rw [if_pos (by omega)]; omega)
           have hA2 : Hid (addrV an N 0 1 = (an : Int)) := Lib.hid (by unfold addrV; rw [if_pos (by omega)]; omega)
           have HOG := Lib.hid (HO.out.below HBG.out)
           go_region_held3 (fun x => x.cell? ⟨R, 0, none⟩ = some (.pointer (some ⟨A, 0, none⟩)) ∧ x.cell? ⟨R, 1, none⟩ = some (.int .i64 (an : Int)) ∧ x.cell? ⟨R, 2, none⟩ = some (.int .i64 (N : Int)) ∧ x.cell? ⟨T1, 0, none⟩ = some (.int .u8 0) ∧ x.cell? ⟨T1, 1, none⟩ = some (.int .u8 0) ∧ x.cell? ⟨T2, 0, none⟩ = some (.int .u8 0) ∧ x.cell? ⟨T2, 1, none⟩ = some (.int .u8 0) ∧ LL R T1 T2 A an N 0 0 0 0 x)
             (first | exact (HL.below (Below.refl _ _).drew).all | assumption)
             (first | (go_at_call 69; refine (vsize_any (some ⟨A, 0, none⟩) an N _).mono ?_; rintro e x1 ⟨rfl, hb1⟩; have g1 := (HOG.out.below (Below.refl _ _).drew).below hb1; have k1 := ((HL.below (Below.refl _ _).drew).below hb1).all; have W1 := (Went.of_below HO.out (HBG.out.trans (((Below.refl _ _).drew.trans hb1).mono HBG.out.size))))
                    | (go_at_call 91; refine (tcode_any _ _ (by omega) (by omega) (by omega) (by omega) _).mono ?_; rintro e x2 ⟨rfl, hb2⟩; rw [HC2.out]; have g2 := g1.below hb2; have k2 := (k1.2.2.2.2.2.2.2.below hb2).all; have W2 := W1.trans (Went.of_below g1 hb2))
                    | (go_at_call 78; refine (on_fill g2 an N h3 h4 0 N (by omega) 0).mono ?_; rintro e x3 ⟨rfl, g3, hw3⟩; rw [hA1.out] at g3 ⊢; rw [HE.out]; have k3 := (k2.2.2.2.2.2.2.2.went g2 hw3).all; have W3 := W2.trans hw3))
           have HL3 := k3.2.2.2.2.2.2.2
           have HG3 := Lib.hid g3
           have HW3 := Lib.hid W3
           clear HL k1 k2 k3 g1 g2 g3 W1 W2 W3 hw3 HOG
           go_wp2_with fail
           have hfs : fillS s (an : Int) (N : Int) 0 = { s with mm := putM s.mm an (List.replicate N 0) } := by
             unfold fillS; rw [HE.out, if_pos rfl, Int.toNat_natCast, Int.toNat_natCast]
           rw [hfs] at HG3
           have hn1 : numE s.L s.es (an : Int) 1 = 0 := by
             have hg := HO.out.good
             have := there_part hg HE.out (b := (an : Int)) (k := 1) (by omega) (by omega) (by omega)
             unfold numE; rw [show wholeB 1 = true from rfl, if_pos rfl, this]
           have hst : storeS { s with mm := putM s.mm an (List.replicate N 0) } (an : Int) 1 (codeI 0 0) = layS s an N 0 0 0 := by
             unfold storeS; rw [show numE ({ s with mm := putM s.mm an (List.replicate N 0) } : ASt).L ({ s with mm := putM s.mm an (List.replicate N 0) } : ASt).es (an : Int) 1 = 0 from hn1, if_pos rfl, Int.toNat_natCast]; rfl
           have HN1 := Lib.hid hn1; have HST := Lib.hid hst
           have HWR : Hid (IntKind.u64.wrap (codeI 0 0) = codeI 0 0) := Lib.hid (by have := IntKind.wrap_u64 (codeI 0 0); unfold codeI at *; omega)
           have hc0 : 0 ≤ codeI 0 0 := by unfold codeI; omega
           clear hfs hn1 hst
           go_region_held3 (fun x => x.cell? ⟨R, 0, none⟩ = some (.pointer (some ⟨A, 0, none⟩)) ∧ x.cell? ⟨R, 1, none⟩ = some (.int .i64 (an : Int)) ∧ x.cell? ⟨R, 2, none⟩ = some (.int .i64 (N : Int)) ∧ x.cell? ⟨T1, 0, none⟩ = some (.int .u8 0) ∧ x.cell? ⟨T1, 1, none⟩ = some (.int .u8 0) ∧ x.cell? ⟨T2, 0, none⟩ = some (.int .u8 0) ∧ x.cell? ⟨T2, 1, none⟩ = some (.int .u8 0) ∧ LL R T1 T2 A an N 0 0 0 0 x)
             (first | exact (HL3.below (Below.refl _ _).drew).all | assumption)
             (first | (go_at_call 91; refine (tcode_any _ _ (by omega) (by omega) (by omega) (by omega) _).mono ?_; rintro e x4 ⟨rfl, hb4⟩; have g4 := (HG3.out.below (Below.refl _ _).drew).below hb4; have k4 := ((HL3.below (Below.refl _ _).drew).below hb4).all; have W4 := (HW3.out.trans (Went.of_below HG3.out ((Below.refl _ _).drew.trans hb4))))
                    | (go_at_call 52; rw [HWR.out]; refine (on_store g4 an N h3 h4 0 1 _ (by omega) hc0).mono ?_; rintro e x5 ⟨rfl, g5, hw5⟩; rw [hA2.out] at g5 ⊢; rw [HST.out] at g5; have k5 := (k4.2.2.2.2.2.2.2.went g4 hw5).all; have W5 := W4.trans hw5))
           have HF := Lib.hid (And.intro g5 W5)
           clear HL3 k4 k5 g4 g5 W4 W5 hw5
           have hNN : numE ({ s with mm := putM s.mm an (List.replicate N 0) } : ASt).L ({ s with mm := putM s.mm an (List.replicate N 0) } : ASt).es (an : Int) 1 = 0 := HN1.out
           rw [hNN]
           go_wp2_with fail
           go_ret
           exact ⟨rfl, HF.out.1, HF.out.2⟩)
end
end Go.Proofs.Ytglfllnemenhnaa.Bt
