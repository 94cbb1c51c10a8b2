/- The contract of a table's Get and Lay. -/
import Derived.Test.YtglfllnemenhnaaTgA
import Derived.Deep.DeepCutAuto
namespace Go.Proofs.Ytglfllnemenhnaa.Bt
open Go Go.RowKit Go.Shelf
set_option linter.unusedVariables false

def gE (s : ASt) (va vs : Nat) (i : Int) : Int := numE s.L s.es (addrV va vs i 1) 1
def gC (s : ASt) (va vs : Nat) (i : Int) : Int := ldV s (addrV va vs i 1) 1
theorem gC_b (s : ASt) (va vs : Nat) (i : Int) : 0 ≤ gC s va vs i ∧ gC s va vs i ≤ 255 := by
  unfold gC ldV
  split
  · have := numV_lt s.mm (addrV va vs i 1).toNat 1
    have e : (1 : Int).toNat = 1 := rfl
    rw [e]; omega
  · omega
/-- a table's variable -/
def VT (B : Nat) (pa : Option Addr) (va vs : Nat) (x : World) : Prop := x.heap[B]? = some (.cells #[.pointer pa, .int .i64 (va : Int), .int .i64 (vs : Int)] 72 (0, 0))
theorem VT.below {B : Nat} {pa : Option Addr} {va vs : Nat} {x y : World} (h : VT B pa va vs x) (hb : Below x.heap.size x y) : VT B pa va vs y := (hb.block _ (Array.getElem?_eq_some_iff.1 h).1).trans h
theorem VT.far {B R : Nat} {pa : Option Addr} {va vs : Nat} {x : World} (hne : B ≠ R) (h : VT B pa va vs x) (u v z : Value) : VT B pa va vs (((x.setCell ⟨R, 0, none⟩ u).setCell ⟨R, 1, none⟩ v).setCell ⟨R, 2, none⟩ z) :=
  (Below.heap_setCell _ ⟨R, 2, none⟩ _ _ hne).trans ((Below.heap_setCell _ ⟨R, 1, none⟩ _ _ hne).trans ((Below.heap_setCell _ ⟨R, 0, none⟩ _ _ hne).trans h))
theorem VT.all {B : Nat} {pa : Option Addr} {va vs : Nat} {x : World} (h : VT B pa va vs x) : x.cell? ⟨B, 0, none⟩ = some (.pointer pa) ∧ x.cell? ⟨B, 1, none⟩ = some (.int .i64 (va : Int)) ∧ x.cell? ⟨B, 2, none⟩ = some (.int .i64 (vs : Int)) ∧ VT B pa va vs x :=
  ⟨(cell_blk h 0).1, (cell_blk h 1).1, (cell_blk h 2).1, h⟩
section
variable {A : Nat} {s : ASt} {w : World}
theorem tget_on (h : On A s w) (va vs : Nat) (h1 : va ≤ 4294967296) (h2 : vs ≤ 4294967296) (i : Int) (hi : i ≤ 9223372036854775807) :
    Calls Try.prog 37 #[tbP (some ⟨A, 0, none⟩) va vs, .int .i64 i] w (Gives (.tuple #[tagV (tagS (gC s va vs i)) (tagO (gC s va vs i)), .int .i64 (gE s va vs i)]) w) :=
  tget_gen _ va vs i w _ _ (gC_b s va vs i).1 (gC_b s va vs i).2 fun X hX => on_load (h.below hX) va vs h1 h2 i 1 hi
theorem tget_nil (i : Int) (hi : i ≤ 9223372036854775807) :
    Calls Try.prog 37 #[tbP none 0 0, .int .i64 i] w (Gives (.tuple #[tagV 0 0, .int .i64 1]) w) :=
  tget_gen none 0 0 i w 0 1 (by omega) (by omega) fun X hX => vload_nil i 1 hi X

theorem tlay_nil (i o st : Int) : Calls Try.prog 32 #[tbP none 0 0, .int .i64 i, .int .i64 o, .int .u8 st] w (Gives (.int .i64 1) w) := by
  go_enter Try.func32, Try.ntmps32
  go_wp2_with fail
  go_ret
  exact ⟨rfl, (Below.refl _ _).alloc (Nat.le_refl _) _⟩
/-- may it be laid? -/
def layB (o st : Int) : Bool := decide (0 ≤ o ∧ o ≤ 10) && (begB st || decide (st = 0))
theorem tlay_arg (va vs : Nat) (i o st : Int) (hb : layB o st = false) : Calls Try.prog 32 #[tbP (some ⟨A, 0, none⟩) va vs, .int .i64 i, .int .i64 o, .int .u8 st] w (Gives (.int .i64 2) w) := by
  by_cases c1 : o < 0
  · clear hb
    go_enter Try.func32, Try.ntmps32
    go_wp2_with fail
    go_ret
    exact ⟨rfl, (Below.refl _ _).alloc (Nat.le_refl _) _⟩
  by_cases c2 : 10 < o
  · clear hb
    go_enter Try.func32, Try.ntmps32
    go_wp2_with fail
    go_ret
    exact ⟨rfl, (Below.refl _ _).alloc (Nat.le_refl _) _⟩
  have hk : begB st = false ∧ ¬ st = 0 := by
    unfold layB at hb; rw [decide_eq_true (by omega)] at hb
    simpa using hb
  obtain ⟨k1, k2⟩ := hk
  have K1 := Lib.hid k1
  have d2 : (st != 0) = true := by simpa using k2
  clear hb k1 k2
  go_enter Try.func32, Try.ntmps32
  go_wp2_with (go_at_call 90; refine (tbeg_any _ _).mono ?_; rintro e w' ⟨rfl, rfl⟩; rw [K1.out])
  go_ret
  exact ⟨rfl, (Below.refl _ _).alloc (Nat.le_refl _) _⟩
theorem pow_n (on : Nat) (h : (on : Int) ≤ 10) : IntKind.i64.wrap ((2 : Int) ^ on) = ((2 ^ on : Nat) : Int) ∧ 1 ≤ 2 ^ on ∧ 2 ^ on ≤ 1024 := by
  have h2 : on = 0 ∨ on = 1 ∨ on = 2 ∨ on = 3 ∨ on = 4 ∨ on = 5 ∨ on = 6 ∨ on = 7 ∨ on = 8 ∨ on = 9 ∨ on = 10 := by omega
  rcases h2 with rfl | rfl | rfl | rfl | rfl | rfl | rfl | rfl | rfl | rfl | rfl <;> decide
/-- how many pages, where they begin, what Lay answers -/
def layA (va vs : Nat) (i : Int) (on : Nat) : Int := addrV va vs i (2 ^ on : Nat)
def layE (s : ASt) (va vs : Nat) (i : Int) (on : Nat) : Int := thereE s.L s.es (layA va vs i on) (2 ^ on : Nat)
set_option maxHeartbeats 1000000 in
theorem tlay_no (h : On A s w) (va vs : Nat) (h1 : va ≤ 4294967296) (h2 : vs ≤ 4294967296) (i st : Int) (on : Nat) (hi : i ≤ 9223372036854775807) (s2 : (on : Int) ≤ 10) (hb : begB st = true ∨ st = 0) (he : layE s va vs i on = 3) :
    Calls Try.prog 32 #[tbP (some ⟨A, 0, none⟩) va vs, .int .i64 i, .int .i64 on, .int .u8 st] w (Gives (.int .i64 3) w) := by
  have s1 : 0 ≤ (on : Int) := by omega
  have HO := Lib.hid h
  have K1 : Hid (begB st = true ∨ st = 0) := Lib.hid hb
  obtain ⟨hN, hN1, hN2⟩ := pow_n on s2
  unfold layE layA at he
  generalize hNN : 2 ^ on = N at *
  have HE := Lib.hid he
  have HN := Lib.hid hN
  clear h hb he hN hNN
  have HB := Lib.hid ((Below.refl w.heap.size w).alloc (Nat.le_refl _) (.cells #[.pointer (some ⟨A, 0, none⟩), .int .i64 (va : Int), .int .i64 (vs : Int)] 72))
  have H0 : Hid (begB 0 = false) := Lib.hid rfl
  have HV : Hid (∀ pu a k, ofV pu a k 3 = .agg #[.pointer none, .int .i64 0, .int .i64 0]) := Lib.hid fun pu a k => by unfold ofV; rw [if_neg (by decide)]
  go_enter Try.func32, Try.ntmps32
  rcases K1.out with hb | rfl
  rotate_left
  go_upto_region 5 with (go_at_call 90; refine (tbeg_any _ _).mono ?_; rintro e w' ⟨rfl, rfl⟩; rw [H0.out])
  rotate_left
  have KB := Lib.hid hb
  clear hb
  go_upto_region 5 with (go_at_call 90; refine (tbeg_any _ _).mono ?_; rintro e w' ⟨rfl, rfl⟩; rw [KB.out])
  all_goals
    have HH : VT w.heap.size (some ⟨A, 0, none⟩) va vs (w.alloc (.cells #[.pointer (some ⟨A, 0, none⟩), .int .i64 (va : Int), .int .i64 (vs : Int)] 72)) := heap_new _ _
    obtain ⟨w1, hw1⟩ : ∃ w1, w.alloc (.cells #[.pointer (some ⟨A, 0, none⟩), .int .i64 (va : Int), .int .i64 (vs : Int)] 72) = w1 := ⟨_, rfl⟩
    rw [hw1] at HH HB ⊢
    clear hw1
    obtain ⟨B, hB⟩ : ∃ B, w.heap.size = B := ⟨_, rfl⟩
    rw [hB] at HH ⊢
    clear hB
    have hs1 := Lib.hid (show B < w1.heap.size from (Array.getElem?_eq_some_iff.1 HH).1)
    go_region_held3 (fun x => x.cell? ⟨B, 0, none⟩ = some (.pointer (some ⟨A, 0, none⟩)) ∧ x.cell? ⟨B, 1, none⟩ = some (.int .i64 (va : Int)) ∧ x.cell? ⟨B, 2, none⟩ = some (.int .i64 (vs : Int)) ∧ VT B (some ⟨A, 0, none⟩) va vs x)
      (first | exact (HH.below (Below.refl _ _).drew).all | exact (HH.below ((bel1 w1 (.cells #[.pointer none, .int .i64 0, .int .i64 0] 31)).drew)).all | assumption)
      (first | (go_at_call 66; rw [HN.out]; refine (on_part (HO.out.below ((HB.out.drew).mono (Nat.le_refl _))) va vs h1 h2 i N hi).mono ?_; rintro e w' ⟨rfl, hbb⟩; rw [HE.out, HV.out]; have hnx := ((HH.below (Below.refl _ _).drew).below hbb).all; have hbw := (HB.out.drew).trans (hbb.mono HB.out.size); have hnz := (hnx.2.2.2.below (bel1 w' (.cells #[.pointer none, .int .i64 0, .int .i64 0] 31))).all)
             | (go_at_call 66; rw [HN.out]; refine (on_part (HO.out.below (((HB.out.alloc HB.out.size (.cells #[.pointer none, .int .i64 0, .int .i64 0] 31)).drew).mono (Nat.le_refl _))) va vs h1 h2 i N hi).mono ?_; rintro e w' ⟨rfl, hbb⟩; rw [HE.out, HV.out]; have hnx := ((HH.below ((bel1 w1 (.cells #[.pointer none, .int .i64 0, .int .i64 0] 31)).drew)).below hbb).all; have hbw := ((HB.out.alloc HB.out.size (.cells #[.pointer none, .int .i64 0, .int .i64 0] 31)).drew).trans (hbb.mono (HB.out.alloc HB.out.size (.cells #[.pointer none, .int .i64 0, .int .i64 0] 31)).size); have hR := (hbb.block w1.heap.size (by simp)).trans (heap_new w1 (.cells #[.pointer none, .int .i64 0, .int .i64 0] 31)); have r0 := (cell_blk hR 0).1; have r1 := (cell_blk hR 1).1; have r2 := (cell_blk hR 2).1; have f0 := (cell_blk hR 0).2; have f1 := (cell_blk hR 1).2; have f2 := (cell_blk hR 2).2; have hnz := (VT.far (R := w1.heap.size) (Nat.ne_of_lt hs1.out) hnx.2.2.2 (.pointer none) (.int .i64 0) (.int .i64 0)).all; have HR2 := Lib.hid hR; clear hR))
    all_goals
      have HBW := Lib.hid hbw
      clear HH hnx hnz hbw hbb
      go_wp2_with fail
      go_ret
      first
        | exact ⟨rfl, HBW.out.alloc HBW.out.size (.cells #[.pointer none, .int .i64 0, .int .i64 0] 31)⟩
        | exact ⟨rfl, ((HBW.out.setCell (p := ⟨w1.heap.size, 0, none⟩) HB.out.size _).setCell (p := ⟨w1.heap.size, 1, none⟩) HB.out.size _).setCell (p := ⟨w1.heap.size, 2, none⟩) HB.out.size _⟩
end
end Go.Proofs.Ytglfllnemenhnaa.Bt
