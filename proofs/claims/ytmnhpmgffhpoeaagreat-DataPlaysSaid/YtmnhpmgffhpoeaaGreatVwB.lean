/- The contracts of a view's Bytes, Store, Put, Fill, Copy, out of those of its arena. -/
import Derived.Test.YtmnhpmgffhpoeaaGreatVwA
namespace Go.Proofs.YtmnhpmgffhpoeaaGreat.Bt
open Go Go.RowKit Go.Shelf
set_option linter.unusedVariables false

def VC (B : Nat) (pa : Option Addr) (va vs : Nat) (x : World) : Prop := x.heap[B]? = some (.cells #[.pointer pa, .int .i64 (va : Int), .int .i64 (vs : Int)] 28 (0, 0))
theorem VC.below {B : Nat} {pa : Option Addr} {va vs : Nat} {x y : World} (h : VC B pa va vs x) (hb : Below x.heap.size x y) : VC B pa va vs y := (hb.block _ (Array.getElem?_eq_some_iff.1 h).1).trans h
theorem VC.all {B : Nat} {pa : Option Addr} {va vs : Nat} {x : World} (h : VC B pa va vs x) : x.cell? ⟨B, 0, none⟩ = some (.pointer pa) ∧ x.cell? ⟨B, 1, none⟩ = some (.int .i64 (va : Int)) ∧ x.cell? ⟨B, 2, none⟩ = some (.int .i64 (vs : Int)) ∧ VC B pa va vs x :=
  ⟨(cell_blk h 0).1, (cell_blk h 1).1, (cell_blk h 2).1, h⟩
/-- what a call on a view comes to that is its arena's -/
def Thru (er : Int) (Q : World → World → Prop) (w : World) (e : Ending) (w' : World) : Prop := e = .returned (.int .i64 er) ∧ ∃ x, Below w.heap.size w x ∧ Q x w'
/-- a call of the arena keeps a view's variable -/
def KeepsV (w : World) (Q : World → World → Prop) : Prop := ∀ (x x' : World) (B : Nat) (c : Array Value), Below w.heap.size w x → Q x x' → x.heap[B]? = some (.cells c 28 (0, 0)) → x'.heap[B]? = x.heap[B]?

set_option maxHeartbeats 1000000 in
theorem vstore_gen (pa : Option Addr) (va vs : Nat) (h1 : va ≤ 4294967296) (h2 : vs ≤ 4294967296) (a : Int) (ha : a ≤ 9223372036854775807) (k x : Int) (w : World) (er : Int) (Q : World → World → Prop)
    (HC : ∀ X, Below w.heap.size w X → Calls Tryz.prog 65 #[.pointer pa, .int .i64 (addrV va vs a k), .int .i64 k, .int .u64 x] X fun e X' => e = .returned (.int .i64 er) ∧ Q X X')
    (HK : KeepsV w Q) :
    Calls Tryz.prog 46 #[.agg #[.pointer pa, .int .i64 (va : Int), .int .i64 (vs : Int)], .int .i64 a, .int .i64 k, .int .u64 x] w (Thru er Q w) := by
  have HC' := Lib.hid HC; have HK' := Lib.hid HK; clear HC HK
  go_enter Tryz.func46, Tryz.ntmps46
  go_wp2_with fail
  have HH : VC w.heap.size pa va vs (w.alloc (.cells #[.pointer pa, .int .i64 (va : Int), .int .i64 (vs : Int)] 28)) := heap_new _ _
  have HB := (Below.refl w.heap.size w).alloc (Nat.le_refl _) (.cells #[.pointer pa, .int .i64 (va : Int), .int .i64 (vs : Int)] 28)
  obtain ⟨w1, hw1⟩ : ∃ w1, w.alloc (.cells #[.pointer pa, .int .i64 (va : Int), .int .i64 (vs : Int)] 28) = w1 := ⟨_, rfl⟩
  rw [hw1] at HH HB ⊢
  clear hw1
  obtain ⟨B, hB⟩ : ∃ B, w.heap.size = B := ⟨_, rfl⟩
  have HBh := Lib.hid HB
  clear HB
  rw [hB] at HH ⊢
  clear hB
  go_region_held3 (fun x => x.cell? ⟨B, 0, none⟩ = some (.pointer pa) ∧ x.cell? ⟨B, 1, none⟩ = some (.int .i64 (va : Int)) ∧ x.cell? ⟨B, 2, none⟩ = some (.int .i64 (vs : Int)) ∧ VC B pa va vs x)
    (first | exact (HH.below (Below.refl _ _).drew).all | assumption)
    (first | (go_at_call 49; refine (address_any pa va vs h1 h2 a k ha _).mono ?_; rintro e w' ⟨rfl, hbb⟩; have hnx := ((HH.below (Below.refl _ _).drew).below hbb).all; have hbw := (HBh.out.drew).trans (hbb.mono HBh.out.size))
           | (go_at_call 65; refine (HC'.out _ hbw).mono ?_; rintro e w'' ⟨rfl, hq⟩; have hny := VC.all (B := B) (pa := pa) (va := va) (vs := vs) (x := w'') ((HK'.out _ _ _ _ hbw hq hnx.2.2.2).trans hnx.2.2.2)))
  have HF := Lib.hid (And.intro hbw hq)
  clear HH hnx hny hbw hq
  go_wp2_with fail
  go_ret
  exact ⟨rfl, _, HF.out.1, HF.out.2⟩

set_option maxHeartbeats 1000000 in
theorem vfill_gen (pa : Option Addr) (va vs : Nat) (h1 : va ≤ 4294967296) (h2 : vs ≤ 4294967296) (a : Int) (ha : a ≤ 9223372036854775807) (k b : Int) (w : World) (er : Int) (Q : World → World → Prop)
    (HC : ∀ X, Below w.heap.size w X → Calls Tryz.prog 50 #[.pointer pa, .int .i64 (addrV va vs a k), .int .i64 k, .int .u8 b] X fun e X' => e = .returned (.int .i64 er) ∧ Q X X')
    (HK : KeepsV w Q) :
    Calls Tryz.prog 30 #[.agg #[.pointer pa, .int .i64 (va : Int), .int .i64 (vs : Int)], .int .i64 a, .int .i64 k, .int .u8 b] w (Thru er Q w) := by
  have HC' := Lib.hid HC; have HK' := Lib.hid HK; clear HC HK
  go_enter Tryz.func30, Tryz.ntmps30
  go_wp2_with fail
  have HH : VC w.heap.size pa va vs (w.alloc (.cells #[.pointer pa, .int .i64 (va : Int), .int .i64 (vs : Int)] 28)) := heap_new _ _
  have HB := (Below.refl w.heap.size w).alloc (Nat.le_refl _) (.cells #[.pointer pa, .int .i64 (va : Int), .int .i64 (vs : Int)] 28)
  obtain ⟨w1, hw1⟩ : ∃ w1, w.alloc (.cells #[.pointer pa, .int .i64 (va : Int), .int .i64 (vs : Int)] 28) = w1 := ⟨_, rfl⟩
  rw [hw1] at HH HB ⊢
  clear hw1
  obtain ⟨B, hB⟩ : ∃ B, w.heap.size = B := ⟨_, rfl⟩
  have HBh := Lib.hid HB
  clear HB
  rw [hB] at HH ⊢
  clear hB
  go_region_held3 (fun x => x.cell? ⟨B, 0, none⟩ = some (.pointer pa) ∧ x.cell? ⟨B, 1, none⟩ = some (.int .i64 (va : Int)) ∧ x.cell? ⟨B, 2, none⟩ = some (.int .i64 (vs : Int)) ∧ VC B pa va vs x)
    (first | exact (HH.below (Below.refl _ _).drew).all | assumption)
    (first | (go_at_call 49; refine (address_any pa va vs h1 h2 a k ha _).mono ?_; rintro e w' ⟨rfl, hbb⟩; have hnx := ((HH.below (Below.refl _ _).drew).below hbb).all; have hbw := (HBh.out.drew).trans (hbb.mono HBh.out.size))
           | (go_at_call 50; refine (HC'.out _ hbw).mono ?_; rintro e w'' ⟨rfl, hq⟩; have hny := VC.all (B := B) (pa := pa) (va := va) (vs := vs) (x := w'') ((HK'.out _ _ _ _ hbw hq hnx.2.2.2).trans hnx.2.2.2)))
  have HF := Lib.hid (And.intro hbw hq)
  clear HH hnx hny hbw hq
  go_wp2_with fail
  go_ret
  exact ⟨rfl, _, HF.out.1, HF.out.2⟩

set_option maxHeartbeats 1000000 in
theorem vput_gen (pa : Option Addr) (va vs : Nat) (h1 : va ≤ 4294967296) (h2 : vs ≤ 4294967296) (a : Int) (ha : a ≤ 9223372036854775807) (x : ByteArray) (hx : x.size ≤ 9223372036854775807) (w : World) (er : Int) (Q : World → World → Prop)
    (HC : ∀ X, Below w.heap.size w X → Calls Tryz.prog 55 #[.pointer pa, .int .i64 (addrV va vs a x.size), .string x] X fun e X' => e = .returned (.int .i64 er) ∧ Q X X')
    (HK : KeepsV w Q) :
    Calls Tryz.prog 80 #[.agg #[.pointer pa, .int .i64 (va : Int), .int .i64 (vs : Int)], .int .i64 a, .string x] w (Thru er Q w) := by
  have HC' := Lib.hid HC; have HK' := Lib.hid HK; clear HC HK
  go_enter Tryz.func80, Tryz.ntmps80
  go_wp2_with fail
  have HH : VC w.heap.size pa va vs (w.alloc (.cells #[.pointer pa, .int .i64 (va : Int), .int .i64 (vs : Int)] 28)) := heap_new _ _
  have HB := (Below.refl w.heap.size w).alloc (Nat.le_refl _) (.cells #[.pointer pa, .int .i64 (va : Int), .int .i64 (vs : Int)] 28)
  obtain ⟨w1, hw1⟩ : ∃ w1, w.alloc (.cells #[.pointer pa, .int .i64 (va : Int), .int .i64 (vs : Int)] 28) = w1 := ⟨_, rfl⟩
  rw [hw1] at HH HB ⊢
  clear hw1
  obtain ⟨B, hB⟩ : ∃ B, w.heap.size = B := ⟨_, rfl⟩
  have HBh := Lib.hid HB
  clear HB
  rw [hB] at HH ⊢
  clear hB
  go_region_held3 (fun x => x.cell? ⟨B, 0, none⟩ = some (.pointer pa) ∧ x.cell? ⟨B, 1, none⟩ = some (.int .i64 (va : Int)) ∧ x.cell? ⟨B, 2, none⟩ = some (.int .i64 (vs : Int)) ∧ VC B pa va vs x)
    (first | exact (HH.below (Below.refl _ _).drew).all | assumption)
    (first | (go_at_call 49; refine (address_any pa va vs h1 h2 a x.size ha _).mono ?_; rintro e w' ⟨rfl, hbb⟩; have hnx := ((HH.below (Below.refl _ _).drew).below hbb).all; have hbw := (HBh.out.drew).trans (hbb.mono HBh.out.size))
           | (go_at_call 55; refine (HC'.out _ hbw).mono ?_; rintro e w'' ⟨rfl, hq⟩; have hny := VC.all (B := B) (pa := pa) (va := va) (vs := vs) (x := w'') ((HK'.out _ _ _ _ hbw hq hnx.2.2.2).trans hnx.2.2.2)))
  have HF := Lib.hid (And.intro hbw hq)
  clear HH hnx hny hbw hq
  go_wp2_with fail
  go_ret
  exact ⟨rfl, _, HF.out.1, HF.out.2⟩

set_option maxHeartbeats 1000000 in
theorem vbytes_gen (pa : Option Addr) (va vs : Nat) (h1 : va ≤ 4294967296) (h2 : vs ≤ 4294967296) (a k : Int) (ha : a ≤ 9223372036854775807) (w : World) (v : ByteArray) (er : Int)
    (HC : ∀ x, Below w.heap.size w x → Calls Tryz.prog 54 #[.pointer pa, .int .i64 (addrV va vs a k), .int .i64 k] x fun e x' => e = .returned (.tuple #[.string v, .int .i64 er]) ∧ Below x.heap.size x x') :
    Calls Tryz.prog 67 #[.agg #[.pointer pa, .int .i64 (va : Int), .int .i64 (vs : Int)], .int .i64 a, .int .i64 k] w fun e w' => e = .returned (.tuple #[.string v, .int .i64 er]) ∧ Below w.heap.size w w' := by
  have HC' := Lib.hid HC; clear HC
  go_enter Tryz.func67, Tryz.ntmps67
  go_wp2_with fail
  have HH := VH.new pa va vs w
  obtain ⟨w1, hw1⟩ : ∃ w1, w.alloc (.cells #[.pointer pa, .int .i64 (va : Int), .int .i64 (vs : Int)] 28) = w1 := ⟨_, rfl⟩
  rw [hw1] at HH ⊢
  clear hw1
  obtain ⟨B, hB⟩ : ∃ B, w.heap.size = B := ⟨_, rfl⟩
  rw [hB] at HH ⊢
  clear hB
  go_region_held3 (fun x => x.cell? ⟨B, 0, none⟩ = some (.pointer pa) ∧ x.cell? ⟨B, 1, none⟩ = some (.int .i64 (va : Int)) ∧ x.cell? ⟨B, 2, none⟩ = some (.int .i64 (vs : Int)) ∧ VH B pa va vs w x)
    (first | exact (HH.below (Below.refl _ _).drew).all | assumption)
    (first | (go_at_call 49; refine (address_any pa va vs h1 h2 a k ha _).mono ?_; rintro e w' ⟨rfl, hbb⟩; have hnx := ((HH.below (Below.refl _ _).drew).below hbb).all)
           | (go_at_call 54; refine (HC'.out _ hnx.2.2.2.2).mono ?_; rintro e w'' ⟨rfl, hbc⟩; have hny := (hnx.2.2.2.below hbc).all))
  have hf := hny.2.2.2.2
  clear HH hnx hny
  go_wp2_with fail
  go_ret2
  exact ⟨rfl, hf⟩

set_option maxHeartbeats 2000000 in
theorem vcopy_gen (pa : Option Addr) (va vs : Nat) (h1 : va ≤ 4294967296) (h2 : vs ≤ 4294967296) (to fr k : Int) (ha : to ≤ 9223372036854775807) (hf : fr ≤ 9223372036854775807) (w : World) (er : Int) (Q : World → World → Prop)
    (HC : ∀ x, Below w.heap.size w x → Calls Tryz.prog 32 #[.pointer pa, .int .i64 (addrV va vs to k), .int .i64 (addrV va vs fr k), .int .i64 k] x fun e x' => e = .returned (.int .i64 er) ∧ Q x x')
    (HK : KeepsV w Q) :
    Calls Tryz.prog 29 #[.agg #[.pointer pa, .int .i64 (va : Int), .int .i64 (vs : Int)], .int .i64 to, .int .i64 fr, .int .i64 k] w (Thru er Q w) := by
  have HC' := Lib.hid HC; have HK' := Lib.hid HK; clear HC HK
  go_enter Tryz.func29, Tryz.ntmps29
  go_wp2_with fail
  have HH : VC w.heap.size pa va vs (w.alloc (.cells #[.pointer pa, .int .i64 (va : Int), .int .i64 (vs : Int)] 28)) := heap_new _ _
  have HB := (Below.refl w.heap.size w).alloc (Nat.le_refl _) (.cells #[.pointer pa, .int .i64 (va : Int), .int .i64 (vs : Int)] 28)
  obtain ⟨w1, hw1⟩ : ∃ w1, w.alloc (.cells #[.pointer pa, .int .i64 (va : Int), .int .i64 (vs : Int)] 28) = w1 := ⟨_, rfl⟩
  rw [hw1] at HH HB ⊢
  clear hw1
  obtain ⟨B, hB⟩ : ∃ B, w.heap.size = B := ⟨_, rfl⟩
  have HBh := Lib.hid HB
  clear HB
  rw [hB] at HH ⊢
  clear hB
  have hAny := fun (x : World) (v : Int) (hv : v = to ∨ v = fr) => address_any pa va vs h1 h2 v k (by rcases hv with rfl | rfl <;> assumption) x
  have HAny := Lib.hid hAny
  clear hAny
  go_region_held3 (fun x => x.cell? ⟨B, 0, none⟩ = some (.pointer pa) ∧ x.cell? ⟨B, 1, none⟩ = some (.int .i64 (va : Int)) ∧ x.cell? ⟨B, 2, none⟩ = some (.int .i64 (vs : Int)) ∧ VC B pa va vs x)
    (first | exact (HH.below (Below.refl _ _).drew).all | assumption)
    (first | (go_at_call_of 49 (Value.int IntKind.i64 to); refine (HAny.out _ to (.inl rfl)).mono ?_; rintro e w' ⟨rfl, hbb⟩; have hnx := ((HH.below (Below.refl _ _).drew).below hbb).all; have hbw := (HBh.out.drew).trans (hbb.mono HBh.out.size))
           | (go_at_call_of 49 (Value.int IntKind.i64 fr); refine (HAny.out _ fr (.inr rfl)).mono ?_; rintro e w'' ⟨rfl, hbb2⟩; have hnz := (hnx.2.2.2.below hbb2).all; have hbz := hbw.trans (hbb2.mono hbw.size))
           | (go_at_call 32; refine (HC'.out _ hbz).mono ?_; rintro e w3 ⟨rfl, hq⟩; have hny := VC.all (B := B) (pa := pa) (va := va) (vs := vs) (x := w3) ((HK'.out _ _ _ _ hbz hq hnz.2.2.2).trans hnz.2.2.2)))
  have HF := Lib.hid (And.intro hbz hq)
  clear HH hnx hny hnz hbw hbz hq
  go_wp2_with fail
  go_ret
  exact ⟨rfl, _, HF.out.1, HF.out.2⟩
end Go.Proofs.YtmnhpmgffhpoeaaGreat.Bt
