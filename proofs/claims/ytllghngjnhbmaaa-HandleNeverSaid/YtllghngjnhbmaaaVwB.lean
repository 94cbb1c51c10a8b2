/- The contracts of a view's Bytes, Store, Put, Fill, Copy, out of those of its arena. -/
import Derived.Test.YtllghngjnhbmaaaVwA
namespace Go.Proofs.Ytllghngjnhbmaaa.Bt
open Go Go.RowKit Go.Shelf
set_option linter.unusedVariables false

def VC (B : Nat) (pa : Option Addr) (va vs : Nat) (x : World) : Prop := x.heap[B]? = some (.cells #[.pointer pa, .int .i64 (va : Int), .int .i64 (vs : Int)] 27 (0, 0))
theorem VC.below {B : Nat} {pa : Option Addr} {va vs : Nat} {x y : World} (h : VC B pa va vs x) (hb : Below x.heap.size x y) : VC B pa va vs y := (hb.block _ (Array.getElem?_eq_some_iff.1 h).1).trans h
theorem VC.all {B : Nat} {pa : Option Addr} {va vs : Nat} {x : World} (h : VC B pa va vs x) : x.cell? ⟨B, 0, none⟩ = some (.pointer pa) ∧ x.cell? ⟨B, 1, none⟩ = some (.int .i64 (va : Int)) ∧ x.cell? ⟨B, 2, none⟩ = some (.int .i64 (vs : Int)) ∧ VC B pa va vs x :=
  ⟨(cell_blk h 0).1, (cell_blk h 1).1, (cell_blk h 2).1, h⟩
/-- what a call on a view comes to that is its arena's -/
def Thru (er : Int) (Q : World → World → Prop) (w : World) (e : Ending) (w' : World) : Prop := e = .returned (.int .i64 er) ∧ ∃ x, Below w.heap.size w x ∧ Q x w'
/-- a call of the arena keeps a view's variable -/
def KeepsV (w : World) (Q : World → World → Prop) : Prop := ∀ (x x' : World) (B : Nat) (c : Array Value), Below w.heap.size w x → Q x x' → x.heap[B]? = some (.cells c 27 (0, 0)) → x'.heap[B]? = x.heap[B]?

set_option maxHeartbeats 1000000 in
theorem vstore_gen (pa : Option Addr) (va vs : Nat) (h1 : va ≤ 4294967296) (h2 : vs ≤ 4294967296) (a : Int) (ha : a ≤ 9223372036854775807) (k x : Int) (w : World) (er : Int) (Q : World → World → Prop)
    (HC : ∀ X, Below w.heap.size w X → Calls Try.prog 51 #[.pointer pa, .int .i64 (addrV va vs a k), .int .i64 k, .int .u64 x] X fun e X' => e = .returned (.int .i64 er) ∧ Q X X')
    (HK : KeepsV w Q) :
    Calls Try.prog 36 #[.agg #[.pointer pa, .int .i64 (va : Int), .int .i64 (vs : Int)], .int .i64 a, .int .i64 k, .int .u64 x] w (Thru er Q w) := by
  have HC' := Lib.hid HC; have HK' := Lib.hid HK; clear HC HK
  go_enter Try.func36, Try.ntmps36
  go_wp2_with fail
  have HH : VC w.heap.size pa va vs (w.alloc (.cells #[.pointer pa, .int .i64 (va : Int), .int .i64 (vs : Int)] 27)) := heap_new _ _
  have HB := (Below.refl w.heap.size w).alloc (Nat.le_refl _) (.cells #[.pointer pa, .int .i64 (va : Int), .int .i64 (vs : Int)] 27)
  obtain ⟨w1, hw1⟩ : ∃ w1, w.alloc (.cells #[.pointer pa, .int .i64 (va : Int), .int .i64 (vs : Int)] 27) = w1 := ⟨_, rfl⟩
  rw [hw1] at HH HB ⊢
  clear hw1
  obtain ⟨B, hB⟩ : ∃ B, w.heap.size = B := ⟨_, rfl⟩
  have HBh := Lib.hid HB
  clear HB
  rw [hB] at HH ⊢
  clear hB
  go_region_held3 (fun x => x.cell? ⟨B, 0, none⟩ = some (.pointer pa) ∧ x.cell? ⟨B, 1, none⟩ = some (.int .i64 (va : Int)) ∧ x.cell? ⟨B, 2, none⟩ = some (.int .i64 (vs : Int)) ∧ VC B pa va vs x)
    (first | exact (HH.below (Below.refl _ _).drew).all | assumption)
    (first | (go_at_call 52; refine (address_any pa va vs h1 h2 a k ha _).mono ?_; rintro e w' ⟨rfl, hbb⟩; have hnx := ((HH.below (Below.refl _ _).drew).below hbb).all; have hbw := (HBh.out.drew).trans (hbb.mono HBh.out.size))
           | (go_at_call 51; refine (HC'.out _ hbw).mono ?_; rintro e w'' ⟨rfl, hq⟩; have hny := VC.all (B := B) (pa := pa) (va := va) (vs := vs) (x := w'') ((HK'.out _ _ _ _ hbw hq hnx.2.2.2).trans hnx.2.2.2)))
  have HF := Lib.hid (And.intro hbw hq)
  clear HH hnx hny hbw hq
  go_wp2_with fail
  go_ret
  exact ⟨rfl, _, HF.out.1, HF.out.2⟩

end Go.Proofs.Ytllghngjnhbmaaa.Bt
