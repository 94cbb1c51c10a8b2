/- The contracts of a record's small functions. -/
import Derived.Test.YtdmaendhkenmgaaOnB
import Derived.Laws.Rows
import Derived.Deep.DeepCutAuto
import Derived.RegionTactic
namespace Go.Proofs.Ytdmaendhkenmgaa.Bt
open Go Go.RowKit Go.Shelf
set_option linter.unusedVariables false

/-- a record's cells: how many fields, where each begins -/
def recC (n : Nat) (f : Nat → Nat) : Array Value := ((.int .i64 (n : Int)) :: (List.range 33).map fun i => Value.int .i64 ((f i : Nat) : Int)).toArray
theorem recC_size (n : Nat) (f : Nat → Nat) : (recC n f).size = 34 := by simp [recC]
theorem recC_0 (n : Nat) (f : Nat → Nat) : (recC n f)[0]? = some (.int .i64 (n : Int)) := by simp [recC]
theorem recC_at (n : Nat) (f : Nat → Nat) (i : Nat) (h : i < 33) : (recC n f)[1 + i]? = some (.int .i64 ((f i : Nat) : Int)) := by
  rw [Nat.add_comm]; simp [recC, h]
/-- a record's variable -/
def VR (B n : Nat) (f : Nat → Nat) (x : World) : Prop := x.heap[B]? = some (.cells (recC n f) 136 (0, 0))
theorem VR.below {B n : Nat} {f : Nat → Nat} {x y : World} (h : VR B n f x) (hb : Below x.heap.size x y) : VR B n f y := (hb.block _ (Array.getElem?_eq_some_iff.1 h).1).trans h
theorem VR.n {B n : Nat} {f : Nat → Nat} {x : World} (h : VR B n f x) : x.cell? ⟨B, 0, none⟩ = some (.int .i64 (n : Int)) := (cell_blk h 0).1.trans (recC_0 n f)
theorem VR.f {B n : Nat} {f : Nat → Nat} {x : World} (h : VR B n f x) (i : Nat) (hi : i < 33) : x.cell? ⟨B, 1 + i, none⟩ = some (.int .i64 ((f i : Nat) : Int)) := (cell_blk h _).1.trans (recC_at n f i hi)
def hasF (n : Nat) (i : Int) : Bool := decide (0 ≤ i ∧ i < n)
theorem fhas_any (n : Nat) (f : Nat → Nat) (i : Int) (w : World) : Calls Try.prog 129 #[.agg (recC n f), .int .i64 i] w (Gives (.bool (hasF n i)) w) := by
  have hv : VR w.heap.size n f (w.alloc (.cells (recC n f) 136)) := heap_new _ _
  have c0 := hv.n
  clear hv
  by_cases h0 : 0 ≤ i
  · by_cases h1 : i < n
    · have HB : Hid (hasF n i = true) := Lib.hid (decide_eq_true ⟨h0, h1⟩)
      go_enter Try.func129, Try.ntmps129
      go_wp2_with fail
      go_ret
      exact ⟨by rw [HB.out]; rfl, bel1 _ _⟩
    · have HB : Hid (hasF n i = false) := Lib.hid (decide_eq_false fun h => h1 h.2)
      go_enter Try.func129, Try.ntmps129
      go_wp2_with fail
      go_ret
      exact ⟨by rw [HB.out]; rfl, bel1 _ _⟩
  · have HB : Hid (hasF n i = false) := Lib.hid (decide_eq_false fun h => h0 h.1)
    go_enter Try.func129, Try.ntmps129
    go_wp2_with fail
    go_ret
    exact ⟨by rw [HB.out]; rfl, bel1 _ _⟩
theorem fsize_any (n : Nat) (f : Nat → Nat) (hn : n ≤ 32) (w : World) : Calls Try.prog 115 #[.agg (recC n f)] w (Gives (.int .i64 ((f n : Nat) : Int)) w) := by
  have hv : VR w.heap.size n f (w.alloc (.cells (recC n f) 136)) := heap_new _ _
  have c0 := hv.n
  have c1 := hv.f n (by omega)
  clear hv
  go_enter Try.func115, Try.ntmps115
  go_wp2_with fail
  go_ret
  exact ⟨rfl, bel1 _ _⟩
def atF (n : Nat) (f : Nat → Nat) (i : Int) : Int := if hasF n i then ((f i.toNat : Nat) : Int) else 0
theorem Try.infoRec : (Try.prog.info? 136).map (·.size) = some 34 := by kernel_rfl
theorem fat_any (n : Nat) (f : Nat → Nat) (hn : n ≤ 32) (i : Int) (w : World) : Calls Try.prog 143 #[.agg (recC n f), .int .i64 i] w (Gives (.int .i64 (atF n f i)) w) := by
  have hv : VR w.heap.size n f (w.alloc (.cells (recC n f) 136)) := heap_new _ _
  have HV := Lib.hid hv
  have HZ : Hid ((Try.prog.info? 136).map (·.size) = some (recC n f).size) := Lib.hid (by rw [recC_size]; exact Try.infoRec)
  cases hh : hasF n i with
  | false =>
    have HH := Lib.hid hh
    have HA : Hid (atF n f i = 0) := Lib.hid (by unfold atF; rw [hh]; rfl)
    clear hh hv
    go_enter Try.func143, Try.ntmps143
    go_wp2_with (refine wpList_load_row rfl 136 (.tmp 2) rfl w.heap.size rfl 136 (recC n f) (0, 0) _ HV.out Try.underlying136 rfl HZ.out ?_)
    refine (fhas_any n f i _).mono ?_
    rintro e w1 ⟨rfl, hb⟩
    rw [HH.out]
    have B1 := Lib.hid ((bel1 w (.cells (recC n f) 136)).trans (hb.mono (by simp)))
    clear hb
    go_wp2_with fail
    go_ret
    exact ⟨by rw [HA.out]; rfl, B1.out⟩
  | true =>
    have hin : 0 ≤ i ∧ i < n := of_decide_eq_true hh
    obtain ⟨k, rfl⟩ : ∃ k : Nat, i = k := ⟨i.toNat, by omega⟩
    have hk : k < n := by omega
    have HH := Lib.hid hh
    have HA : Hid (atF n f k = ((f k : Nat) : Int)) := Lib.hid (by unfold atF; rw [hh, if_pos rfl, Int.toNat_natCast])
    clear hh hv hin
    go_enter Try.func143, Try.ntmps143
    go_wp2_with (refine wpList_load_row rfl 136 (.tmp 2) rfl w.heap.size rfl 136 (recC n f) (0, 0) _ HV.out Try.underlying136 rfl HZ.out ?_)
    refine (fhas_any n f k _).mono ?_
    rintro e w1 ⟨rfl, hb⟩
    rw [HH.out]
    have B1 := Lib.hid ((bel1 w (.cells (recC n f) 136)).trans (hb.mono (by simp)))
    have c1 := (VR.below HV.out hb).f k (by omega)
    clear hb
    go_wp2_with fail
    go_ret
    exact ⟨by rw [HA.out]; rfl, B1.out⟩
/-- how many bytes a field has -/
theorem fwidth_any (n : Nat) (f : Nat → Nat) (hn : n ≤ 32) (k : Nat) (hk : k < n) (hm : f k ≤ f (k + 1)) (hs : f (k + 1) ≤ 1000) (w : World) :
    Calls Try.prog 128 #[.agg (recC n f), .int .i64 (k : Int)] w (Gives (.int .i64 ((f (k + 1) - f k : Nat) : Int)) w) := by
  have hv : VR w.heap.size n f (w.alloc (.cells (recC n f) 136)) := heap_new _ _
  have c0 := hv.f k (by omega)
  have c1 := hv.f (k + 1) (by omega)
  have HR : Hid (((f (k + 1) - f k : Nat) : Int) = (f (k + 1) : Int) - f k) := Lib.hid (by omega)
  have e1 : ((k : Int) + 1).toNat = k + 1 := by omega
  clear hv
  go_enter Try.func128, Try.ntmps128
  go_wp2_with fail
  go_region
  go_wp2_with fail
  go_ret
  exact ⟨by rw [HR.out]; rfl, (bel1 _ _).drew⟩
/-- has a number more bytes than a field? -/
def longB (x : Int) (W : Nat) : Bool := x / 2 ^ (8 * W) != 0
theorem flong_any (n : Nat) (f : Nat → Nat) (hn : n ≤ 32) (k : Nat) (hk : k < n) (hm : f k ≤ f (k + 1)) (hs : f (k + 1) ≤ 1000) (hW : f (k + 1) - f k ≤ 8) (x : Int) (hx : 0 ≤ x) (hx2 : x < 18446744073709551616) (w : World) :
    Calls Try.prog 114 #[.agg (recC n f), .int .i64 (k : Int), .int .u64 x] w (Gives (.bool (longB x (f (k + 1) - f k))) w) := by
  have hv : VR w.heap.size n f (w.alloc (.cells (recC n f) 136)) := heap_new _ _
  have HV := Lib.hid hv
  have HZ : Hid ((Try.prog.info? 136).map (·.size) = some (recC n f).size) := Lib.hid (by rw [recC_size]; exact Try.infoRec)
  clear hv
  go_enter Try.func114, Try.ntmps114
  go_wp2_with (refine wpList_load_row rfl 136 (.tmp 3) rfl w.heap.size rfl 136 (recC n f) (0, 0) _ HV.out Try.underlying136 rfl HZ.out ?_)
  refine (fwidth_any n f hn k hk hm hs _).mono ?_
  rintro e w1 ⟨rfl, hb⟩
  have B1 := Lib.hid ((bel1 w (.cells (recC n f) 136)).trans (hb.mono (by simp)))
  clear hb
  generalize f (k + 1) - f k = W at *
  go_wp2_with fail
  go_ret
  exact ⟨rfl, B1.out⟩
end Go.Proofs.Ytdmaendhkenmgaa.Bt
