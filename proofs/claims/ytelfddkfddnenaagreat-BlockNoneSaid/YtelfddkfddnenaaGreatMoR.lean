/- ArFull, ArNil, VwA, VwB. -/
import Derived.Test.YtelfddkfddnenaaGreatMoP
import Derived.Test.YtelfddkfddnenaaGreatMoN
section
namespace Go.Proofs.YtelfddkfddnenaaGreat.Bt
open Go Go.RowKit Go.Shelf
set_option linter.unusedVariables false

/-- an arena all whose pages are committed -/
def fullS (L : Nat) (m : Nat → UInt8) : ASt := ⟨L, [0, L], m, false, 0⟩
theorem good_full {L : Nat} (h0 : 0 < L) (hL : L ≤ 1048576) : Good L [0, L] :=
  ⟨by simp [Rising, h0], by simp, (fun e h => by simp at h; omega), hL⟩
theorem mem_full {L : Nat} (h0 : 0 < L) (i : Int) : mem [0, L] i = decide (0 ≤ i ∧ i < L) := by
  unfold mem
  rw [cnt_cons, cnt_cons, cnt_nil]
  by_cases h1 : 0 ≤ i
  · by_cases h2 : i < L
    · rw [decide_eq_true (show 0 ≤ i ∧ i < L from ⟨h1, h2⟩), if_pos (by omega), if_neg (by omega)]; rfl
    · rw [decide_eq_false (show ¬ (0 ≤ i ∧ i < L) from fun h => h2 h.2), if_pos (by omega), if_pos (by omega)]; rfl
  · rw [decide_eq_false (show ¬ (0 ≤ i ∧ i < L) from fun h => h1 h.1), if_neg (by omega), if_neg (by omega)]; rfl
theorem there_full {L : Nat} (h0 : 0 < L) (hL : L ≤ 1048576) (a k : Int) : thereB L [0, L] a k = decide (0 ≤ a ∧ 0 ≤ k ∧ a + k ≤ (L : Int) * 4096) := by
  rw [Bool.eq_iff_iff, there_iff (good_full h0 hL), decide_eq_true_iff]
  constructor
  · rintro ⟨x0, x1, x2, _⟩; exact ⟨x0, x1, x2⟩
  · rintro ⟨x0, x1, x2⟩
    exact ⟨x0, x1, x2, fun i i1 i2 => by rw [mem_full h0]; simp; omega⟩
theorem thereE_full {L : Nat} (h0 : 0 < L) (hL : L ≤ 1048576) (a k : Int) : thereE L [0, L] a k = if 0 ≤ a ∧ 0 ≤ k ∧ a + k ≤ (L : Int) * 4096 then 0 else 3 := by
  unfold thereE
  rw [there_full h0 hL]
  by_cases h : 0 ≤ a ∧ 0 ≤ k ∧ a + k ≤ (L : Int) * 4096
  · rw [if_pos h, decide_eq_true h]; rfl
  · rw [if_neg h, decide_eq_false h]; rfl
/-- New, and all its pages committed -/
theorem full_new (c L : Nat) (hc : lenN c = L) (he : commitE (newS L) 0 c = 0) (hs : laidS L [] 0 c true = [0, L]) : commitS (newS L) 0 c = fullS L (fun _ => 0) := by
  unfold commitS
  unfold commitE at he
  have hn : ¬ (countE (newS L).L 0 c ≠ 0 ∨ 0 < countR (newS L).L (newS L).es 0 c) := by
    rintro (h | h)
    · rw [if_pos h] at he; exact h he
    · by_cases h2 : countE (newS L).L 0 c = 0
      · rw [if_neg (by simpa using h2), if_pos h] at he; cases he
      · rw [if_pos h2] at he; exact h2 he
  rw [if_neg hn, show refB (newS L) = false from rfl]
  show ASt.mk _ _ _ _ _ = _
  rw [show laidS (newS L).L (newS L).es 0 c true = [0, L] from hs]; rfl

end Go.Proofs.YtelfddkfddnenaaGreat.Bt
end
section
namespace Go.Proofs.YtelfddkfddnenaaGreat.Bt
open Go Go.RowKit Go.Shelf
set_option linter.unusedVariables false

theorem good0 : Good 0 [] := ⟨List.Pairwise.nil, rfl, (fun e h => by cases h), by omega⟩
theorem has_nil (i : Int) (w : World) : Calls Tryz.prog 316 #[.pointer none, .int .i64 i] w fun e w' => e = .returned (.bool false) ∧ Below w.heap.size w w' := by
  have h0 : Hid (hasB 0 [] i = false) := Lib.hid (by unfold hasB; rw [decide_eq_false (by omega)]; rfl)
  go_enter Tryz.func316, Tryz.ntmps316
  go_wp2_with fail
  refine (pages_nil _).mono ?_
  rintro e w1 ⟨rfl, hb1⟩
  go_wp2_with fail
  refine (has_any 0 none 0 0 [] i _ good0 (.inl ⟨rfl, rfl⟩) rfl).mono ?_
  rintro e w2 ⟨rfl, hb2⟩
  rw [h0.out]
  go_wp2_with fail
  go_ret
  exact ⟨rfl, hb1.trans (hb2.mono hb1.size)⟩
theorem clone_nil (w : World) : Calls Tryz.prog 47 #[.pointer none] w fun e w' => e = .returned (.pointer none) ∧ w = w' := by
  go_enter Tryz.func47, Tryz.ntmps47
  go_wp2_with fail
  go_ret
  exact ⟨rfl, rfl⟩
theorem put_nil (a : Int) (s : ByteArray) (hs : s.size ≤ 9223372036854775807) (w : World) : Calls Tryz.prog 80 #[.pointer none, .int .i64 a, .string s] w fun e w' => e = .returned (.int .i64 1) ∧ Below w.heap.size w w' := by
  go_enter Tryz.func80, Tryz.ntmps80
  go_wp2_with fail
  refine (there_nil a _ _).mono ?_
  rintro e w1 ⟨rfl, rfl⟩
  go_wp2_with fail
  go_ret
  exact ⟨rfl, ((Below.refl w.heap.size w).alloc (Nat.le_refl _) _).alloc (by simp) _⟩
theorem fill_nil (a k b : Int) (w : World) : Calls Tryz.prog 119 #[.pointer none, .int .i64 a, .int .i64 k, .int .u8 b] w fun e w' => e = .returned (.int .i64 1) ∧ Below w.heap.size w w' := by
  go_enter Tryz.func119, Tryz.ntmps119
  go_wp2_with fail
  refine (there_nil a k _).mono ?_
  rintro e w1 ⟨rfl, rfl⟩
  go_wp2_with fail
  go_ret
  exact ⟨rfl, ((Below.refl w.heap.size w).alloc (Nat.le_refl _) _).alloc (by simp) _⟩
theorem copy_nil (a b k : Int) (w : World) : Calls Tryz.prog 61 #[.pointer none, .int .i64 a, .int .i64 b, .int .i64 k] w fun e w' => e = .returned (.int .i64 1) ∧ w = w' := by
  go_enter Tryz.func61, Tryz.ntmps61
  go_wp2_with fail
  refine (there_nil a k _).mono ?_
  rintro e w1 ⟨rfl, rfl⟩
  go_wp2_with fail
  go_ret
  exact ⟨rfl, rfl⟩

end Go.Proofs.YtelfddkfddnenaaGreat.Bt
end
section
namespace Go.Proofs.YtelfddkfddnenaaGreat.Bt
open Go Go.RowKit Go.Shelf
set_option linter.unusedVariables false

def viewV (pa : Option Addr) (va vs : Nat) : Array Value := #[.pointer pa, .int .i64 (va : Int), .int .i64 (vs : Int)]
/-- the address of a place from which on so many bytes are within the view -/
def addrV (va vs : Nat) (a k : Int) : Int := if 0 ≤ a ∧ 0 ≤ k ∧ k ≤ (vs : Int) - a then (va : Int) + a else -1
theorem addrV_le {va vs : Nat} (h1 : va ≤ 4294967296) (h2 : vs ≤ 4294967296) (a k : Int) : addrV va vs a k ≤ 9223372036854775807 := by unfold addrV; split <;> omega
theorem address_any (pa : Option Addr) (va vs : Nat) (h1 : va ≤ 4294967296) (h2 : vs ≤ 4294967296) (a k : Int) (ha : a ≤ 9223372036854775807) (w : World) :
    Calls Tryz.prog 114 #[.agg #[.pointer pa, .int .i64 (va : Int), .int .i64 (vs : Int)], .int .i64 a, .int .i64 k] w fun e w' => e = .returned (.int .i64 (addrV va vs a k)) ∧ Below w.heap.size w w' := by
  by_cases c1 : a < 0
  · have HR : Hid (addrV va vs a k = -1) := Lib.hid (by unfold addrV; rw [if_neg (by omega)])
    have d1 : decide (a < 0) = true := by simpa using c1
    go_enter Tryz.func114, Tryz.ntmps114
    go_wp2_with fail
    go_ret
    exact ⟨by rw [HR.out]; rfl, (Below.refl _ _).alloc (Nat.le_refl _) _⟩
  have d1 : decide (a < 0) = false := by simpa using c1
  by_cases c2 : k < 0
  · have HR : Hid (addrV va vs a k = -1) := Lib.hid (by unfold addrV; rw [if_neg (by omega)])
    have d2 : decide (k < 0) = true := by simpa using c2
    go_enter Tryz.func114, Tryz.ntmps114
    go_wp2_with fail
    go_ret
    exact ⟨by rw [HR.out]; rfl, (Below.refl _ _).alloc (Nat.le_refl _) _⟩
  have d2 : decide (k < 0) = false := by simpa using c2
  by_cases c3 : (vs : Int) - a < k
  · have HR : Hid (addrV va vs a k = -1) := Lib.hid (by unfold addrV; rw [if_neg (by omega)])
    have d3 : decide ((vs : Int) - a < k) = true := by simpa using c3
    go_enter Tryz.func114, Tryz.ntmps114
    go_wp2_with fail
    go_ret
    exact ⟨by rw [HR.out]; rfl, (Below.refl _ _).alloc (Nat.le_refl _) _⟩
  · have HR : Hid (addrV va vs a k = (va : Int) + a) := Lib.hid (by unfold addrV; rw [if_pos (by omega)])
    have d3 : decide ((vs : Int) - a < k) = false := by simpa using c3
    go_enter Tryz.func114, Tryz.ntmps114
    go_wp2_with fail
    go_ret
    exact ⟨by rw [HR.out]; rfl, (Below.refl _ _).alloc (Nat.le_refl _) _⟩
theorem vsize_any (pa : Option Addr) (va vs : Nat) (w : World) : Calls Tryz.prog 142 #[.agg #[.pointer pa, .int .i64 (va : Int), .int .i64 (vs : Int)]] w fun e w' => e = .returned (.int .i64 (vs : Int)) ∧ Below w.heap.size w w' := by
  go_enter Tryz.func142, Tryz.ntmps142
  go_wp2_with fail
  go_ret
  exact ⟨rfl, (Below.refl _ _).alloc (Nat.le_refl _) _⟩

/-- the view's own variable, and what lay ahead of it -/
def VH (B : Nat) (pa : Option Addr) (va vs : Nat) (w x : World) : Prop := x.heap[B]? = some (.cells #[.pointer pa, .int .i64 (va : Int), .int .i64 (vs : Int)] 28 (0, 0)) ∧ Below w.heap.size w x
theorem VH.lt {B : Nat} {pa : Option Addr} {va vs : Nat} {w x : World} (h : VH B pa va vs w x) : B < x.heap.size := (Array.getElem?_eq_some_iff.1 h.1).1
theorem VH.below {B : Nat} {pa : Option Addr} {va vs : Nat} {w x y : World} (h : VH B pa va vs w x) (hb : Below x.heap.size x y) : VH B pa va vs w y := ⟨(hb.block _ h.lt).trans h.1, h.2.trans (hb.mono h.2.size)⟩
theorem VH.all {B : Nat} {pa : Option Addr} {va vs : Nat} {w x : World} (h : VH B pa va vs w x) : x.cell? ⟨B, 0, none⟩ = some (.pointer pa) ∧ x.cell? ⟨B, 1, none⟩ = some (.int .i64 (va : Int)) ∧ x.cell? ⟨B, 2, none⟩ = some (.int .i64 (vs : Int)) ∧ VH B pa va vs w x :=
  ⟨(cell_blk h.1 0).1, (cell_blk h.1 1).1, (cell_blk h.1 2).1, h⟩
theorem VH.new (pa : Option Addr) (va vs : Nat) (w : World) : VH w.heap.size pa va vs w (w.alloc (.cells #[.pointer pa, .int .i64 (va : Int), .int .i64 (vs : Int)] 28)) := ⟨heap_new _ _, (Below.refl _ _).alloc (Nat.le_refl _) _⟩

set_option maxHeartbeats 1000000 in
theorem vload_gen (pa : Option Addr) (va vs : Nat) (h1 : va ≤ 4294967296) (h2 : vs ≤ 4294967296) (a k : Int) (ha : a ≤ 9223372036854775807) (w : World) (v er : Int)
    (HC : ∀ x, Below w.heap.size w x → Calls Tryz.prog 188 #[.pointer pa, .int .i64 (addrV va vs a k), .int .i64 k] x fun e x' => e = .returned (.tuple #[.int .u64 v, .int .i64 er]) ∧ Below x.heap.size x x') :
    Calls Tryz.prog 125 #[.agg #[.pointer pa, .int .i64 (va : Int), .int .i64 (vs : Int)], .int .i64 a, .int .i64 k] w fun e w' => e = .returned (.tuple #[.int .u64 v, .int .i64 er]) ∧ Below w.heap.size w w' := by
  have HC' := Lib.hid HC; clear HC
  go_enter Tryz.func125, Tryz.ntmps125
  go_wp2_with fail
  have HH := VH.new pa va vs w
  obtain ⟨w1, hw1⟩ : ∃ w1, w.alloc (.cells #[.pointer pa, .int .i64 (va : Int), .int .i64 (vs : Int)] 28) = w1 := ⟨_, rfl⟩
  rw [hw1] at HH ⊢
  clear hw1
  obtain ⟨B, hB⟩ : ∃ B, w.heap.size = B := ⟨_, rfl⟩
  rw [hB] at HH ⊢
  clear hB
  go_region_held3 (fun x => x.cell? ⟨B, 0, none⟩ = some (.pointer pa) ∧ x.cell? ⟨B, 1, none⟩ = some (.int .i64 (va : Int)) ∧ x.cell? ⟨B, 2, none⟩ = some (.int .i64 (vs : Int)) ∧ VH B pa va vs w x)
    (first | exact (HH.below (Below.refl _ _).drew).all | assumption)
    (first | (go_at_call 114; refine (address_any pa va vs h1 h2 a k ha _).mono ?_; rintro e w' ⟨rfl, hbb⟩; have hnx := ((HH.below (Below.refl _ _).drew).below hbb).all)
           | (go_at_call 188; refine (HC'.out _ hnx.2.2.2.2).mono ?_; rintro e w'' ⟨rfl, hbc⟩; have hny := (hnx.2.2.2.below hbc).all))
  have hf := hny.2.2.2.2
  clear HH hnx hny
  go_wp2_with fail
  go_ret2
  exact ⟨rfl, hf⟩
end Go.Proofs.YtelfddkfddnenaaGreat.Bt
end
section
namespace Go.Proofs.YtelfddkfddnenaaGreat.Bt
open Go Go.RowKit Go.Shelf
set_option linter.unusedVariables false

def VC (B : Nat) (pa : Option Addr) (va vs : Nat) (x : World) : Prop := x.heap[B]? = some (.cells #[.pointer pa, .int .i64 (va : Int), .int .i64 (vs : Int)] 28 (0, 0))
theorem VC.below {B : Nat} {pa : Option Addr} {va vs : Nat} {x y : World} (h : VC B pa va vs x) (hb : Below x.heap.size x y) : VC B pa va vs y := (hb.block _ (Array.getElem?_eq_some_iff.1 h).1).trans h
theorem VC.all {B : Nat} {pa : Option Addr} {va vs : Nat} {x : World} (h : VC B pa va vs x) : x.cell? ⟨B, 0, none⟩ = some (.pointer pa) ∧ x.cell? ⟨B, 1, none⟩ = some (.int .i64 (va : Int)) ∧ x.cell? ⟨B, 2, none⟩ = some (.int .i64 (vs : Int)) ∧ VC B pa va vs x :=
  ⟨(cell_blk h 0).1, (cell_blk h 1).1, (cell_blk h 2).1, h⟩
/-- what a call on a view comes to that is its arena's -/
def Thru (er : Int) (Q : World → World → Prop) (w : World) (e : Ending) (w' : World) : Prop := e = .returned (.int .i64 er) ∧ ∃ x, Below w.heap.size w x ∧ Q x w'
/-- a call of the arena keeps a view's variable -/
def KeepsV (w : World) (Q : World → World → Prop) : Prop := ∀ (x x' : World) (B : Nat) (c : Array Value), Below w.heap.size w x → Q x x' → x.heap[B]? = some (.cells c 28 (0, 0)) → x'.heap[B]? = x.heap[B]?

set_option maxHeartbeats 1000000 in
theorem vstore_gen (pa : Option Addr) (va vs : Nat) (h1 : va ≤ 4294967296) (h2 : vs ≤ 4294967296) (a : Int) (ha : a ≤ 9223372036854775807) (k x : Int) (w : World) (er : Int) (Q : World → World → Prop)
    (HC : ∀ X, Below w.heap.size w X → Calls Tryz.prog 81 #[.pointer pa, .int .i64 (addrV va vs a k), .int .i64 k, .int .u64 x] X fun e X' => e = .returned (.int .i64 er) ∧ Q X X')
    (HK : KeepsV w Q) :
    Calls Tryz.prog 146 #[.agg #[.pointer pa, .int .i64 (va : Int), .int .i64 (vs : Int)], .int .i64 a, .int .i64 k, .int .u64 x] w (Thru er Q w) := by
  have HC' := Lib.hid HC; have HK' := Lib.hid HK; clear HC HK
  go_enter Tryz.func146, Tryz.ntmps146
  go_wp2_with fail
  have HH : VC w.heap.size pa va vs (w.alloc (.cells #[.pointer pa, .int .i64 (va : Int), .int .i64 (vs : Int)] 28)) := heap_new _ _
  have HB := (Below.refl w.heap.size w).alloc (Nat.le_refl _) (.cells #[.pointer pa, .int .i64 (va : Int), .int .i64 (vs : Int)] 28)
  obtain ⟨w1, hw1⟩ : ∃ w1, w.alloc (.cells #[.pointer pa, .int .i64 (va : Int), .int .i64 (vs : Int)] 28) = w1 := ⟨_, rfl⟩
  rw [hw1] at HH HB ⊢
  clear hw1
  obtain ⟨B, hB⟩ : ∃ B, w.heap.size = B := ⟨_, rfl⟩
  have HBh := Lib.hid HB
  clear HB
  rw [hB] at HH ⊢
  clear hB
  go_region_held3 (fun x => x.cell? ⟨B, 0, none⟩ = some (.pointer pa) ∧ x.cell? ⟨B, 1, none⟩ = some (.int .i64 (va : Int)) ∧ x.cell? ⟨B, 2, none⟩ = some (.int .i64 (vs : Int)) ∧ VC B pa va vs x)
    (first | exact (HH.below (Below.refl _ _).drew).all | assumption)
    (first | (go_at_call 114; refine (address_any pa va vs h1 h2 a k ha _).mono ?_; rintro e w' ⟨rfl, hbb⟩; have hnx := ((HH.below (Below.refl _ _).drew).below hbb).all; have hbw := (HBh.out.drew).trans (hbb.mono HBh.out.size))
           | (go_at_call 81; refine (HC'.out _ hbw).mono ?_; rintro e w'' ⟨rfl, hq⟩; have hny := VC.all (B := B) (pa := pa) (va := va) (vs := vs) (x := w'') ((HK'.out _ _ _ _ hbw hq hnx.2.2.2).trans hnx.2.2.2)))
  have HF := Lib.hid (And.intro hbw hq)
  clear HH hnx hny hbw hq
  go_wp2_with fail
  go_ret
  exact ⟨rfl, _, HF.out.1, HF.out.2⟩

set_option maxHeartbeats 1000000 in
theorem vfill_gen (pa : Option Addr) (va vs : Nat) (h1 : va ≤ 4294967296) (h2 : vs ≤ 4294967296) (a : Int) (ha : a ≤ 9223372036854775807) (k b : Int) (w : World) (er : Int) (Q : World → World → Prop)
    (HC : ∀ X, Below w.heap.size w X → Calls Tryz.prog 119 #[.pointer pa, .int .i64 (addrV va vs a k), .int .i64 k, .int .u8 b] X fun e X' => e = .returned (.int .i64 er) ∧ Q X X')
    (HK : KeepsV w Q) :
    Calls Tryz.prog 94 #[.agg #[.pointer pa, .int .i64 (va : Int), .int .i64 (vs : Int)], .int .i64 a, .int .i64 k, .int .u8 b] w (Thru er Q w) := by
  have HC' := Lib.hid HC; have HK' := Lib.hid HK; clear HC HK
  go_enter Tryz.func94, Tryz.ntmps94
  go_wp2_with fail
  have HH : VC w.heap.size pa va vs (w.alloc (.cells #[.pointer pa, .int .i64 (va : Int), .int .i64 (vs : Int)] 28)) := heap_new _ _
  have HB := (Below.refl w.heap.size w).alloc (Nat.le_refl _) (.cells #[.pointer pa, .int .i64 (va : Int), .int .i64 (vs : Int)] 28)
  obtain ⟨w1, hw1⟩ : ∃ w1, w.alloc (.cells #[.pointer pa, .int .i64 (va : Int), .int .i64 (vs : Int)] 28) = w1 := ⟨_, rfl⟩
  rw [hw1] at HH HB ⊢
  clear hw1
  obtain ⟨B, hB⟩ : ∃ B, w.heap.size = B := ⟨_, rfl⟩
  have HBh := Lib.hid HB
  clear HB
  rw [hB] at HH ⊢
  clear hB
  go_region_held3 (fun x => x.cell? ⟨B, 0, none⟩ = some (.pointer pa) ∧ x.cell? ⟨B, 1, none⟩ = some (.int .i64 (va : Int)) ∧ x.cell? ⟨B, 2, none⟩ = some (.int .i64 (vs : Int)) ∧ VC B pa va vs x)
    (first | exact (HH.below (Below.refl _ _).drew).all | assumption)
    (first | (go_at_call 114; refine (address_any pa va vs h1 h2 a k ha _).mono ?_; rintro e w' ⟨rfl, hbb⟩; have hnx := ((HH.below (Below.refl _ _).drew).below hbb).all; have hbw := (HBh.out.drew).trans (hbb.mono HBh.out.size))
           | (go_at_call 119; refine (HC'.out _ hbw).mono ?_; rintro e w'' ⟨rfl, hq⟩; have hny := VC.all (B := B) (pa := pa) (va := va) (vs := vs) (x := w'') ((HK'.out _ _ _ _ hbw hq hnx.2.2.2).trans hnx.2.2.2)))
  have HF := Lib.hid (And.intro hbw hq)
  clear HH hnx hny hbw hq
  go_wp2_with fail
  go_ret
  exact ⟨rfl, _, HF.out.1, HF.out.2⟩

set_option maxHeartbeats 1000000 in
theorem vput_gen (pa : Option Addr) (va vs : Nat) (h1 : va ≤ 4294967296) (h2 : vs ≤ 4294967296) (a : Int) (ha : a ≤ 9223372036854775807) (x : ByteArray) (hx : x.size ≤ 9223372036854775807) (w : World) (er : Int) (Q : World → World → Prop)
    (HC : ∀ X, Below w.heap.size w X → Calls Tryz.prog 80 #[.pointer pa, .int .i64 (addrV va vs a x.size), .string x] X fun e X' => e = .returned (.int .i64 er) ∧ Q X X')
    (HK : KeepsV w Q) :
    Calls Tryz.prog 259 #[.agg #[.pointer pa, .int .i64 (va : Int), .int .i64 (vs : Int)], .int .i64 a, .string x] w (Thru er Q w) := by
  have HC' := Lib.hid HC; have HK' := Lib.hid HK; clear HC HK
  go_enter Tryz.func259, Tryz.ntmps259
  go_wp2_with fail
  have HH : VC w.heap.size pa va vs (w.alloc (.cells #[.pointer pa, .int .i64 (va : Int), .int .i64 (vs : Int)] 28)) := heap_new _ _
  have HB := (Below.refl w.heap.size w).alloc (Nat.le_refl _) (.cells #[.pointer pa, .int .i64 (va : Int), .int .i64 (vs : Int)] 28)
  obtain ⟨w1, hw1⟩ : ∃ w1, w.alloc (.cells #[.pointer pa, .int .i64 (va : Int), .int .i64 (vs : Int)] 28) = w1 := ⟨_, rfl⟩
  rw [hw1] at HH HB ⊢
  clear hw1
  obtain ⟨B, hB⟩ : ∃ B, w.heap.size = B := ⟨_, rfl⟩
  have HBh := Lib.hid HB
  clear HB
  rw [hB] at HH ⊢
  clear hB
  go_region_held3 (fun x => x.cell? ⟨B, 0, none⟩ = some (.pointer pa) ∧ x.cell? ⟨B, 1, none⟩ = some (.int .i64 (va : Int)) ∧ x.cell? ⟨B, 2, none⟩ = some (.int .i64 (vs : Int)) ∧ VC B pa va vs x)
    (first | exact (HH.below (Below.refl _ _).drew).all | assumption)
    (first | (go_at_call 114; refine (address_any pa va vs h1 h2 a x.size ha _).mono ?_; rintro e w' ⟨rfl, hbb⟩; have hnx := ((HH.below (Below.refl _ _).drew).below hbb).all; have hbw := (HBh.out.drew).trans (hbb.mono HBh.out.size))
           | (go_at_call 80; refine (HC'.out _ hbw).mono ?_; rintro e w'' ⟨rfl, hq⟩; have hny := VC.all (B := B) (pa := pa) (va := va) (vs := vs) (x := w'') ((HK'.out _ _ _ _ hbw hq hnx.2.2.2).trans hnx.2.2.2)))
  have HF := Lib.hid (And.intro hbw hq)
  clear HH hnx hny hbw hq
  go_wp2_with fail
  go_ret
  exact ⟨rfl, _, HF.out.1, HF.out.2⟩

set_option maxHeartbeats 1000000 in
theorem vbytes_gen (pa : Option Addr) (va vs : Nat) (h1 : va ≤ 4294967296) (h2 : vs ≤ 4294967296) (a k : Int) (ha : a ≤ 9223372036854775807) (w : World) (v : ByteArray) (er : Int)
    (HC : ∀ x, Below w.heap.size w x → Calls Tryz.prog 78 #[.pointer pa, .int .i64 (addrV va vs a k), .int .i64 k] x fun e x' => e = .returned (.tuple #[.string v, .int .i64 er]) ∧ Below x.heap.size x x') :
    Calls Tryz.prog 203 #[.agg #[.pointer pa, .int .i64 (va : Int), .int .i64 (vs : Int)], .int .i64 a, .int .i64 k] w fun e w' => e = .returned (.tuple #[.string v, .int .i64 er]) ∧ Below w.heap.size w w' := by
  have HC' := Lib.hid HC; clear HC
  go_enter Tryz.func203, Tryz.ntmps203
  go_wp2_with fail
  have HH := VH.new pa va vs w
  obtain ⟨w1, hw1⟩ : ∃ w1, w.alloc (.cells #[.pointer pa, .int .i64 (va : Int), .int .i64 (vs : Int)] 28) = w1 := ⟨_, rfl⟩
  rw [hw1] at HH ⊢
  clear hw1
  obtain ⟨B, hB⟩ : ∃ B, w.heap.size = B := ⟨_, rfl⟩
  rw [hB] at HH ⊢
  clear hB
  go_region_held3 (fun x => x.cell? ⟨B, 0, none⟩ = some (.pointer pa) ∧ x.cell? ⟨B, 1, none⟩ = some (.int .i64 (va : Int)) ∧ x.cell? ⟨B, 2, none⟩ = some (.int .i64 (vs : Int)) ∧ VH B pa va vs w x)
    (first | exact (HH.below (Below.refl _ _).drew).all | assumption)
    (first | (go_at_call 114; refine (address_any pa va vs h1 h2 a k ha _).mono ?_; rintro e w' ⟨rfl, hbb⟩; have hnx := ((HH.below (Below.refl _ _).drew).below hbb).all)
           | (go_at_call 78; refine (HC'.out _ hnx.2.2.2.2).mono ?_; rintro e w'' ⟨rfl, hbc⟩; have hny := (hnx.2.2.2.below hbc).all))
  have hf := hny.2.2.2.2
  clear HH hnx hny
  go_wp2_with fail
  go_ret2
  exact ⟨rfl, hf⟩

set_option maxHeartbeats 2000000 in
theorem vcopy_gen (pa : Option Addr) (va vs : Nat) (h1 : va ≤ 4294967296) (h2 : vs ≤ 4294967296) (to fr k : Int) (ha : to ≤ 9223372036854775807) (hf : fr ≤ 9223372036854775807) (w : World) (er : Int) (Q : World → World → Prop)
    (HC : ∀ x, Below w.heap.size w x → Calls Tryz.prog 61 #[.pointer pa, .int .i64 (addrV va vs to k), .int .i64 (addrV va vs fr k), .int .i64 k] x fun e x' => e = .returned (.int .i64 er) ∧ Q x x')
    (HK : KeepsV w Q) :
    Calls Tryz.prog 93 #[.agg #[.pointer pa, .int .i64 (va : Int), .int .i64 (vs : Int)], .int .i64 to, .int .i64 fr, .int .i64 k] w (Thru er Q w) := by
  have HC' := Lib.hid HC; have HK' := Lib.hid HK; clear HC HK
  go_enter Tryz.func93, Tryz.ntmps93
  go_wp2_with fail
  have HH : VC w.heap.size pa va vs (w.alloc (.cells #[.pointer pa, .int .i64 (va : Int), .int .i64 (vs : Int)] 28)) := heap_new _ _
  have HB := (Below.refl w.heap.size w).alloc (Nat.le_refl _) (.cells #[.pointer pa, .int .i64 (va : Int), .int .i64 (vs : Int)] 28)
  obtain ⟨w1, hw1⟩ : ∃ w1, w.alloc (.cells #[.pointer pa, .int .i64 (va : Int), .int .i64 (vs : Int)] 28) = w1 := ⟨_, rfl⟩
  rw [hw1] at HH HB ⊢
  clear hw1
  obtain ⟨B, hB⟩ : ∃ B, w.heap.size = B := ⟨_, rfl⟩
  have HBh := Lib.hid HB
  clear HB
  rw [hB] at HH ⊢
  clear hB
  have hAny := fun (x : World) (v : Int) (hv : v = to ∨ v = fr) => address_any pa va vs h1 h2 v k (by rcases hv with rfl | rfl <;> assumption) x
  have HAny := Lib.hid hAny
  clear hAny
  go_region_held3 (fun x => x.cell? ⟨B, 0, none⟩ = some (.pointer pa) ∧ x.cell? ⟨B, 1, none⟩ = some (.int .i64 (va : Int)) ∧ x.cell? ⟨B, 2, none⟩ = some (.int .i64 (vs : Int)) ∧ VC B pa va vs x)
    (first | exact (HH.below (Below.refl _ _).drew).all | assumption)
    (first | (go_at_call_of 114 (Value.int IntKind.i64 to); refine (HAny.out _ to (.inl rfl)).mono ?_; rintro e w' ⟨rfl, hbb⟩; have hnx := ((HH.below (Below.refl _ _).drew).below hbb).all; have hbw := (HBh.out.drew).trans (hbb.mono HBh.out.size))
           | (go_at_call_of 114 (Value.int IntKind.i64 fr); refine (HAny.out _ fr (.inr rfl)).mono ?_; rintro e w'' ⟨rfl, hbb2⟩; have hnz := (hnx.2.2.2.below hbb2).all; have hbz := hbw.trans (hbb2.mono hbw.size))
           | (go_at_call 61; refine (HC'.out _ hbz).mono ?_; rintro e w3 ⟨rfl, hq⟩; have hny := VC.all (B := B) (pa := pa) (va := va) (vs := vs) (x := w3) ((HK'.out _ _ _ _ hbz hq hnz.2.2.2).trans hnz.2.2.2)))
  have HF := Lib.hid (And.intro hbz hq)
  clear HH hnx hny hnz hbw hbz hq
  go_wp2_with fail
  go_ret
  exact ⟨rfl, _, HF.out.1, HF.out.2⟩
end Go.Proofs.YtelfddkfddnenaaGreat.Bt
end
