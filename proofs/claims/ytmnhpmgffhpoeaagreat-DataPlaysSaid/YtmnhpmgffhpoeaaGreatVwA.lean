/- The contracts of a view's address, At, Size, Load, Bytes: what each returns, and that nothing that was there is turned. -/
import Derived.Test.YtmnhpmgffhpoeaaGreatArCopy
import Derived.Test.YtmnhpmgffhpoeaaGreatArNil
namespace Go.Proofs.YtmnhpmgffhpoeaaGreat.Bt
open Go Go.RowKit Go.Shelf
set_option linter.unusedVariables false

def viewV (pa : Option Addr) (va vs : Nat) : Array Value := #[.pointer pa, .int .i64 (va : Int), .int .i64 (vs : Int)]
/-- the address of a place from which on so many bytes are within the view -/
def addrV (va vs : Nat) (a k : Int) : Int := if 0 ≤ a ∧ 0 ≤ k ∧ k ≤ (vs : Int) - a then (va : Int) + a else -1
theorem addrV_le {va vs : Nat} (h1 : va ≤ 4294967296) (h2 : vs ≤ 4294967296) (a k : Int) : addrV va vs a k ≤ 9223372036854775807 := by unfold addrV; split <;> omega
theorem address_any (pa : Option Addr) (va vs : Nat) (h1 : va ≤ 4294967296) (h2 : vs ≤ 4294967296) (a k : Int) (ha : a ≤ 9223372036854775807) (w : World) :
    Calls Tryz.prog 49 #[.agg #[.pointer pa, .int .i64 (va : Int), .int .i64 (vs : Int)], .int .i64 a, .int .i64 k] w fun e w' => e = .returned (.int .i64 (addrV va vs a k)) ∧ Below w.heap.size w w' := by
  by_cases c1 : a < 0
  · have HR : Hid (addrV va vs a k = -1) := Lib.hid (by unfold addrV; rw [if_neg (by omega)])
    have d1 : decide (a < 0) = true := by simpa using c1
    go_enter Tryz.func49, Tryz.ntmps49
    go_wp2_with fail
    go_ret
    exact ⟨by rw [HR.out]; rfl, (Below.refl _ _).alloc (Nat.le_refl _) _⟩
  have d1 : decide (a < 0) = false := by simpa using c1
  by_cases c2 : k < 0
  · have HR : Hid (addrV va vs a k = -1) := Lib.hid (by unfold addrV; rw [if_neg (by omega)])
    have d2 : decide (k < 0) = true := by simpa using c2
    go_enter Tryz.func49, Tryz.ntmps49
    go_wp2_with fail
    go_ret
    exact ⟨by rw [HR.out]; rfl, (Below.refl _ _).alloc (Nat.le_refl _) _⟩
  have d2 : decide (k < 0) = false := by simpa using c2
  by_cases c3 : (vs : Int) - a < k
  · have HR : Hid (addrV va vs a k = -1) := Lib.hid (by unfold addrV; rw [if_neg (by omega)])
    have d3 : decide ((vs : Int) - a < k) = true := by simpa using c3
    go_enter Tryz.func49, Tryz.ntmps49
    go_wp2_with fail
    go_ret
    exact ⟨by rw [HR.out]; rfl, (Below.refl _ _).alloc (Nat.le_refl _) _⟩
  · have HR : Hid (addrV va vs a k = (va : Int) + a) := Lib.hid (by unfold addrV; rw [if_pos (by omega)])
    have d3 : decide ((vs : Int) - a < k) = false := by simpa using c3
    go_enter Tryz.func49, Tryz.ntmps49
    go_wp2_with fail
    go_ret
    exact ⟨by rw [HR.out]; rfl, (Below.refl _ _).alloc (Nat.le_refl _) _⟩
theorem vsize_any (pa : Option Addr) (va vs : Nat) (w : World) : Calls Tryz.prog 41 #[.agg #[.pointer pa, .int .i64 (va : Int), .int .i64 (vs : Int)]] w fun e w' => e = .returned (.int .i64 (vs : Int)) ∧ Below w.heap.size w w' := by
  go_enter Tryz.func41, Tryz.ntmps41
  go_wp2_with fail
  go_ret
  exact ⟨rfl, (Below.refl _ _).alloc (Nat.le_refl _) _⟩

/-- the view's own variable, and what lay ahead of it -/
def VH (B : Nat) (pa : Option Addr) (va vs : Nat) (w x : World) : Prop := x.heap[B]? = some (.cells #[.pointer pa, .int .i64 (va : Int), .int .i64 (vs : Int)] 28 (0, 0)) ∧ Below w.heap.size w x
theorem VH.lt {B : Nat} {pa : Option Addr} {va vs : Nat} {w x : World} (h : VH B pa va vs w x) : B < x.heap.size := (Array.getElem?_eq_some_iff.1 h.1).1
theorem VH.below {B : Nat} {pa : Option Addr} {va vs : Nat} {w x y : World} (h : VH B pa va vs w x) (hb : Below x.heap.size x y) : VH B pa va vs w y := ⟨(hb.block _ h.lt).trans h.1, h.2.trans (hb.mono h.2.size)⟩
theorem VH.all {B : Nat} {pa : Option Addr} {va vs : Nat} {w x : World} (h : VH B pa va vs w x) : x.cell? ⟨B, 0, none⟩ = some (.pointer pa) ∧ x.cell? ⟨B, 1, none⟩ = some (.int .i64 (va : Int)) ∧ x.cell? ⟨B, 2, none⟩ = some (.int .i64 (vs : Int)) ∧ VH B pa va vs w x :=
  ⟨(cell_blk h.1 0).1, (cell_blk h.1 1).1, (cell_blk h.1 2).1, h⟩
theorem VH.new (pa : Option Addr) (va vs : Nat) (w : World) : VH w.heap.size pa va vs w (w.alloc (.cells #[.pointer pa, .int .i64 (va : Int), .int .i64 (vs : Int)] 28)) := ⟨heap_new _ _, (Below.refl _ _).alloc (Nat.le_refl _) _⟩

set_option maxHeartbeats 1000000 in
theorem vload_gen (pa : Option Addr) (va vs : Nat) (h1 : va ≤ 4294967296) (h2 : vs ≤ 4294967296) (a k : Int) (ha : a ≤ 9223372036854775807) (w : World) (v er : Int)
    (HC : ∀ x, Below w.heap.size w x → Calls Tryz.prog 68 #[.pointer pa, .int .i64 (addrV va vs a k), .int .i64 k] x fun e x' => e = .returned (.tuple #[.int .u64 v, .int .i64 er]) ∧ Below x.heap.size x x') :
    Calls Tryz.prog 52 #[.agg #[.pointer pa, .int .i64 (va : Int), .int .i64 (vs : Int)], .int .i64 a, .int .i64 k] w fun e w' => e = .returned (.tuple #[.int .u64 v, .int .i64 er]) ∧ Below w.heap.size w w' := by
  have HC' := Lib.hid HC; clear HC
  go_enter Tryz.func52, Tryz.ntmps52
  go_wp2_with fail
  have HH := VH.new pa va vs w
  obtain ⟨w1, hw1⟩ : ∃ w1, w.alloc (.cells #[.pointer pa, .int .i64 (va : Int), .int .i64 (vs : Int)] 28) = w1 := ⟨_, rfl⟩
  rw [hw1] at HH ⊢
  clear hw1
  obtain ⟨B, hB⟩ : ∃ B, w.heap.size = B := ⟨_, rfl⟩
  rw [hB] at HH ⊢
  clear hB
  go_region_held3 (fun x => x.cell? ⟨B, 0, none⟩ = some (.pointer pa) ∧ x.cell? ⟨B, 1, none⟩ = some (.int .i64 (va : Int)) ∧ x.cell? ⟨B, 2, none⟩ = some (.int .i64 (vs : Int)) ∧ VH B pa va vs w x)
    (first | exact (HH.below (Below.refl _ _).drew).all | assumption)
    (first | (go_at_call 49; refine (address_any pa va vs h1 h2 a k ha _).mono ?_; rintro e w' ⟨rfl, hbb⟩; have hnx := ((HH.below (Below.refl _ _).drew).below hbb).all)
           | (go_at_call 68; refine (HC'.out _ hnx.2.2.2.2).mono ?_; rintro e w'' ⟨rfl, hbc⟩; have hny := (hnx.2.2.2.below hbc).all))
  have hf := hny.2.2.2.2
  clear HH hnx hny
  go_wp2_with fail
  go_ret2
  exact ⟨rfl, hf⟩
end Go.Proofs.YtmnhpmgffhpoeaaGreat.Bt
