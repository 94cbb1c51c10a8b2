/- Several texts in one: FdB; FdC; FdD; ArDec; ArNumM; ArKeepM; RfA; RfB; FdA. -/
import Derived.Test.YtcbbhefgdonabaaOnB
import Derived.Laws.Rows
import Derived.Deep.DeepCutAuto
import Derived.RegionTactic
import Derived.Deep.MidRow
import Derived.Test.YtcbbhefgdonabaaArPut
import Derived.Test.YtcbbhefgdonabaaArFull
import Derived.Laws.CopyRow
import Derived.Laws.AppendOwn
/- The contracts of a record's small functions. -/
namespace Go.Proofs.Ytcbbhefgdonabaa.Bt
open Go Go.RowKit Go.Shelf
set_option linter.unusedVariables false

/-- a record's cells: how many fields, where each begins -/
def recC (n : Nat) (f : Nat → Nat) : Array Value := ((.int .i64 (n : Int)) :: (List.range 33).map fun i => Value.int .i64 ((f i : Nat) : Int)).toArray
theorem recC_size (n : Nat) (f : Nat → Nat) : (recC n f).size = 34 := by simp [recC]
theorem recC_0 (n : Nat) (f : Nat → Nat) : (recC n f)[0]? = some (.int .i64 (n : Int)) := by simp [recC]
theorem recC_at (n : Nat) (f : Nat → Nat) (i : Nat) (h : i < 33) : (recC n f)[1 + i]? = some (.int .i64 ((f i : Nat) : Int)) := by
  rw [Nat.add_comm]; simp [recC, h]
/-- a record's variable -/
def VR (B n : Nat) (f : Nat → Nat) (x : World) : Prop := x.heap[B]? = some (.cells (recC n f) 88 (0, 0))
theorem VR.below {B n : Nat} {f : Nat → Nat} {x y : World} (h : VR B n f x) (hb : Below x.heap.size x y) : VR B n f y := (hb.block _ (Array.getElem?_eq_some_iff.1 h).1).trans h
theorem VR.n {B n : Nat} {f : Nat → Nat} {x : World} (h : VR B n f x) : x.cell? ⟨B, 0, none⟩ = some (.int .i64 (n : Int)) := (cell_blk h 0).1.trans (recC_0 n f)
theorem VR.f {B n : Nat} {f : Nat → Nat} {x : World} (h : VR B n f x) (i : Nat) (hi : i < 33) : x.cell? ⟨B, 1 + i, none⟩ = some (.int .i64 ((f i : Nat) : Int)) := (cell_blk h _).1.trans (recC_at n f i hi)
def hasF (n : Nat) (i : Int) : Bool := decide (0 ≤ i ∧ i < n)
theorem fhas_any (n : Nat) (f : Nat → Nat) (i : Int) (w : World) : Calls Try.prog 86 #[.agg (recC n f), .int .i64 i] w (Gives (.bool (hasF n i)) w) := by
  have hv : VR w.heap.size n f (w.alloc (.cells (recC n f) 88)) := heap_new _ _
  have c0 := hv.n
  clear hv
  by_cases h0 : 0 ≤ i
  · by_cases h1 : i < n
    · have HB : Hid (hasF n i = true) := Lib.hid (decide_eq_true ⟨h0, h1⟩)
      go_enter Try.func86, Try.ntmps86
      go_wp2_with fail
      go_ret
      exact ⟨by rw [HB.out]; rfl, bel1 _ _⟩
    · have HB : Hid (hasF n i = false) := Lib.hid (decide_eq_false fun h => h1 h.2)
      go_enter Try.func86, Try.ntmps86
      go_wp2_with fail
      go_ret
      exact ⟨by rw [HB.out]; rfl, bel1 _ _⟩
  · have HB : Hid (hasF n i = false) := Lib.hid (decide_eq_false fun h => h0 h.1)
    go_enter Try.func86, Try.ntmps86
    go_wp2_with fail
    go_ret
    exact ⟨by rw [HB.out]; rfl, bel1 _ _⟩
theorem fsize_any (n : Nat) (f : Nat → Nat) (hn : n ≤ 32) (w : World) : Calls Try.prog 64 #[.agg (recC n f)] w (Gives (.int .i64 ((f n : Nat) : Int)) w) := by
  have hv : VR w.heap.size n f (w.alloc (.cells (recC n f) 88)) := heap_new _ _
  have c0 := hv.n
  have c1 := hv.f n (by omega)
  clear hv
  go_enter Try.func64, Try.ntmps64
  go_wp2_with fail
  go_ret
  exact ⟨rfl, bel1 _ _⟩
def atF (n : Nat) (f : Nat → Nat) (i : Int) : Int := if hasF n i then ((f i.toNat : Nat) : Int) else 0
theorem Try.infoRec : (Try.prog.info? 88).map (·.size) = some 34 := by kernel_rfl
theorem fat_any (n : Nat) (f : Nat → Nat) (hn : n ≤ 32) (i : Int) (w : World) : Calls Try.prog 82 #[.agg (recC n f), .int .i64 i] w (Gives (.int .i64 (atF n f i)) w) := by
  have hv : VR w.heap.size n f (w.alloc (.cells (recC n f) 88)) := heap_new _ _
  have HV := Lib.hid hv
  have HZ : Hid ((Try.prog.info? 88).map (·.size) = some (recC n f).size) := Lib.hid (by rw [recC_size]; exact Try.infoRec)
  cases hh : hasF n i with
  | false =>
    have HH := Lib.hid hh
    have HA : Hid (atF n f i = 0) := Lib.hid (by unfold atF; rw [hh]; rfl)
    clear hh hv
    go_enter Try.func82, Try.ntmps82
    go_wp2_with (refine wpList_load_row rfl 88 (.tmp 2) rfl w.heap.size rfl 88 (recC n f) (0, 0) _ HV.out Try.underlying88 rfl HZ.out ?_)
    refine (fhas_any n f i _).mono ?_
    rintro e w1 ⟨rfl, hb⟩
    rw [HH.out]
    have B1 := Lib.hid ((bel1 w (.cells (recC n f) 88)).trans (hb.mono (by simp)))
    clear hb
    go_wp2_with fail
    go_ret
    exact ⟨by rw [HA.out]; rfl, B1.out⟩
  | true =>
    have hin : 0 ≤ i ∧ i < n := of_decide_eq_true hh
    obtain ⟨k, rfl⟩ : ∃ k : Nat, i = k := ⟨i.toNat, by omega⟩
    have hk : k < n := by omega
    have HH := Lib.hid hh
    have HA : Hid (atF n f k = ((f k : Nat) : Int)) := Lib.hid (by unfold atF; rw [hh, if_pos rfl, Int.toNat_natCast])
    clear hh hv hin
    go_enter Try.func82, Try.ntmps82
    go_wp2_with (refine wpList_load_row rfl 88 (.tmp 2) rfl w.heap.size rfl 88 (recC n f) (0, 0) _ HV.out Try.underlying88 rfl HZ.out ?_)
    refine (fhas_any n f k _).mono ?_
    rintro e w1 ⟨rfl, hb⟩
    rw [HH.out]
    have B1 := Lib.hid ((bel1 w (.cells (recC n f) 88)).trans (hb.mono (by simp)))
    have c1 := (VR.below HV.out hb).f k (by omega)
    clear hb
    go_wp2_with fail
    go_ret
    exact ⟨by rw [HA.out]; rfl, B1.out⟩
/-- how many bytes a field has -/
theorem fwidth_any (n : Nat) (f : Nat → Nat) (hn : n ≤ 32) (k : Nat) (hk : k < n) (hm : f k ≤ f (k + 1)) (hs : f (k + 1) ≤ 1000) (w : World) :
    Calls Try.prog 85 #[.agg (recC n f), .int .i64 (k : Int)] w (Gives (.int .i64 ((f (k + 1) - f k : Nat) : Int)) w) := by
  have hv : VR w.heap.size n f (w.alloc (.cells (recC n f) 88)) := heap_new _ _
  have c0 := hv.f k (by omega)
  have c1 := hv.f (k + 1) (by omega)
  have HR : Hid (((f (k + 1) - f k : Nat) : Int) = (f (k + 1) : Int) - f k) := Lib.hid (by omega)
  have e1 : ((k : Int) + 1).toNat = k + 1 := by omega
  clear hv
  go_enter Try.func85, Try.ntmps85
  go_wp2_with fail
  go_region
  go_wp2_with fail
  go_ret
  exact ⟨by rw [HR.out]; rfl, (bel1 _ _).drew⟩
/-- has a number more bytes than a field? -/
def longB (x : Int) (W : Nat) : Bool := x / 2 ^ (8 * W) != 0
theorem flong_any (n : Nat) (f : Nat → Nat) (hn : n ≤ 32) (k : Nat) (hk : k < n) (hm : f k ≤ f (k + 1)) (hs : f (k + 1) ≤ 1000) (hW : f (k + 1) - f k ≤ 8) (x : Int) (hx : 0 ≤ x) (hx2 : x < 18446744073709551616) (w : World) :
    Calls Try.prog 63 #[.agg (recC n f), .int .i64 (k : Int), .int .u64 x] w (Gives (.bool (longB x (f (k + 1) - f k))) w) := by
  have hv : VR w.heap.size n f (w.alloc (.cells (recC n f) 88)) := heap_new _ _
  have HV := Lib.hid hv
  have HZ : Hid ((Try.prog.info? 88).map (·.size) = some (recC n f).size) := Lib.hid (by rw [recC_size]; exact Try.infoRec)
  clear hv
  go_enter Try.func63, Try.ntmps63
  go_wp2_with (refine wpList_load_row rfl 88 (.tmp 3) rfl w.heap.size rfl 88 (recC n f) (0, 0) _ HV.out Try.underlying88 rfl HZ.out ?_)
  refine (fwidth_any n f hn k hk hm hs _).mono ?_
  rintro e w1 ⟨rfl, hb⟩
  have B1 := Lib.hid ((bel1 w (.cells (recC n f) 88)).trans (hb.mono (by simp)))
  clear hb
  generalize f (k + 1) - f k = W at *
  go_wp2_with fail
  go_ret
  exact ⟨rfl, B1.out⟩
end Go.Proofs.Ytcbbhefgdonabaa.Bt
/- The contract of a record's Set. -/
namespace Go.Proofs.Ytcbbhefgdonabaa.Bt
open Go Go.RowKit Go.Shelf
set_option linter.unusedVariables false
set_option linter.unusedSimpArgs false

/-- a record's and a view's variables -/
def RV (B V n : Nat) (f : Nat → Nat) (A va vs : Nat) (x : World) : Prop := VR B n f x ∧ VC V (some ⟨A, 0, none⟩) va vs x
theorem RV.below {B V n : Nat} {f : Nat → Nat} {A va vs : Nat} {x y : World} (h : RV B V n f A va vs x) (hb : Below x.heap.size x y) : RV B V n f A va vs y := ⟨h.1.below hb, h.2.below hb⟩
theorem RV.went {B V n : Nat} {f : Nat → Nat} {A va vs : Nat} {x y : World} {s : ASt} (h : RV B V n f A va vs x) (ho : On A s x) (hg : Went A x y) : RV B V n f A va vs y :=
  ⟨hg.keep ho h.1 (by decide) (by decide) (by decide), hg.keep ho h.2 (by decide) (by decide) (by decide)⟩
theorem VR.range {B n : Nat} {f : Nat → Nat} {x : World} (h : VR B n f x) : x.rangeAt B 0 (recC n f).toList := fun j v hv => by
  rw [(cell_blk h _).1, Nat.zero_add]; simpa using hv
theorem RV.all {B V n : Nat} {f : Nat → Nat} {A va vs : Nat} {x : World} (h : RV B V n f A va vs x) (k : Nat) (hk : k < 33) :
    x.cell? ⟨V, 0, none⟩ = some (.pointer (some ⟨A, 0, none⟩)) ∧ x.cell? ⟨V, 1, none⟩ = some (.int .i64 (va : Int)) ∧ x.cell? ⟨V, 2, none⟩ = some (.int .i64 (vs : Int)) ∧ x.cell? ⟨B, 1 + k, none⟩ = some (.int .i64 ((f k : Nat) : Int)) ∧ x.rangeAt B 0 (recC n f).toList ∧ RV B V n f A va vs x :=
  ⟨(cell_blk h.2 0).1, (cell_blk h.2 1).1, (cell_blk h.2 2).1, h.1.f k hk, h.1.range, h⟩
theorem rv_new (n : Nat) (f : Nat → Nat) (A va vs : Nat) (w : World) :
    RV w.heap.size (w.heap.size + 1) n f A va vs ((w.alloc (.cells (recC n f) 88)).alloc (.cells #[.pointer (some ⟨A, 0, none⟩), .int .i64 (va : Int), .int .i64 (vs : Int)] 27)) := by
  obtain ⟨q1, q2⟩ := pairs_new w (recC n f) #[.pointer (some ⟨A, 0, none⟩), .int .i64 (va : Int), .int .i64 (vs : Int)] 88 27
  exact ⟨q1, q2⟩
section
variable {A : Nat} {s : ASt} {w : World}
theorem fset_arg (n : Nat) (f : Nat → Nat) (va vs : Nat) (i x : Int) (hh : hasF n i = false) :
    Calls Try.prog 65 #[.agg (recC n f), vwV A va vs, .int .i64 i, .int .u64 x] w (Gives (.int .i64 2) w) := by
  have HH := Lib.hid hh
  have HV := Lib.hid (rv_new n f A va vs w)
  have HZ : Hid ((Try.prog.info? 88).map (·.size) = some (recC n f).size) := Lib.hid (by rw [recC_size]; exact Try.infoRec)
  clear hh
  go_enter Try.func65, Try.ntmps65
  go_wp2_with (refine wpList_load_row rfl 88 (.tmp 4) rfl w.heap.size rfl 88 (recC n f) (0, 0) _ HV.out.1 Try.underlying88 rfl HZ.out ?_)
  refine (fhas_any n f i _).mono ?_
  rintro e w1 ⟨rfl, hb⟩
  rw [HH.out]
  have B1 := Lib.hid ((below2 w (.cells (recC n f) 88) (.cells #[.pointer (some ⟨A, 0, none⟩), .int .i64 (va : Int), .int .i64 (vs : Int)] 27)).trans (hb.mono (by simp; omega)))
  clear hb
  go_wp2_with fail
  go_ret
  exact ⟨rfl, B1.out⟩
theorem fset_long (n : Nat) (f : Nat → Nat) (va vs : Nat) (hn : n ≤ 32) (k : Nat) (hk : k < n) (hm : f k ≤ f (k + 1)) (hs : f (k + 1) ≤ 1000) (hW : f (k + 1) - f k ≤ 8) (x : Int) (hx : 0 ≤ x) (hx2 : x < 18446744073709551616) (hl : longB x (f (k + 1) - f k) = true) :
    Calls Try.prog 65 #[.agg (recC n f), vwV A va vs, .int .i64 (k : Int), .int .u64 x] w (Gives (.int .i64 16) w) := by
  have HH : Hid (hasF n k = true) := Lib.hid (decide_eq_true ⟨by omega, by omega⟩)
  have HL := Lib.hid hl
  have HV := Lib.hid (rv_new n f A va vs w)
  have HZ : Hid ((Try.prog.info? 88).map (·.size) = some (recC n f).size) := Lib.hid (by rw [recC_size]; exact Try.infoRec)
  clear hl
  go_enter Try.func65, Try.ntmps65
  go_wp2_with (refine wpList_load_row rfl 88 (.tmp 4) rfl w.heap.size rfl 88 (recC n f) (0, 0) _ HV.out.1 Try.underlying88 rfl HZ.out ?_)
  refine (fhas_any n f k _).mono ?_
  rintro e w1 ⟨rfl, hb⟩
  rw [HH.out]
  have B1 := Lib.hid ((below2 w (.cells (recC n f) 88) (.cells #[.pointer (some ⟨A, 0, none⟩), .int .i64 (va : Int), .int .i64 (vs : Int)] 27)).trans (hb.mono (by simp; omega)))
  have HV1 := Lib.hid (HV.out.below hb)
  clear hb HV
  go_wp2_with (refine wpList_load_row rfl 88 (.tmp 4) rfl w.heap.size rfl 88 (recC n f) (0, 0) _ HV1.out.1 Try.underlying88 rfl HZ.out ?_)
  refine (flong_any n f hn k hk hm hs hW x hx hx2 _).mono ?_
  rintro e w2 ⟨rfl, hb⟩
  rw [HL.out]
  have B2 := Lib.hid (B1.out.trans (hb.mono B1.out.size))
  clear hb
  go_wp2_with fail
  go_ret
  exact ⟨rfl, B2.out⟩
set_option maxHeartbeats 1000000 in
theorem fset_on (h : On A s w) (n : Nat) (f : Nat → Nat) (va vs : Nat) (h1 : va ≤ 4294967296) (h2 : vs ≤ 4294967296) (hn : n ≤ 32) (k : Nat) (hk : k < n) (hm : f k ≤ f (k + 1)) (hs : f (k + 1) ≤ 1000) (hW : f (k + 1) - f k ≤ 8) (x : Int) (hx : 0 ≤ x) (hx2 : x < 18446744073709551616) (hl : longB x (f (k + 1) - f k) = false) :
    Calls Try.prog 65 #[.agg (recC n f), vwV A va vs, .int .i64 (k : Int), .int .u64 x] w
      (Ret A (storeS s (addrV va vs (f k : Nat) (f (k + 1) - f k : Nat)) (f (k + 1) - f k : Nat) x) (.int .i64 (numE s.L s.es (addrV va vs (f k : Nat) (f (k + 1) - f k : Nat)) (f (k + 1) - f k : Nat))) w) := by
  have HO := Lib.hid h
  have HH : Hid (hasF n k = true) := Lib.hid (decide_eq_true ⟨by omega, by omega⟩)
  have HL := Lib.hid hl
  have HV := Lib.hid (rv_new n f A va vs w)
  have HZ : Hid ((Try.prog.info? 88).map (·.size) = some (recC n f).size) := Lib.hid (by rw [recC_size]; exact Try.infoRec)
  clear hl h
  go_enter Try.func65, Try.ntmps65
  go_wp2_with (refine wpList_load_row rfl 88 (.tmp 4) rfl w.heap.size rfl 88 (recC n f) (0, 0) _ HV.out.1 Try.underlying88 rfl HZ.out ?_)
  refine (fhas_any n f k _).mono ?_
  rintro e w1 ⟨rfl, hb⟩
  rw [HH.out]
  have B1 := Lib.hid ((below2 w (.cells (recC n f) 88) (.cells #[.pointer (some ⟨A, 0, none⟩), .int .i64 (va : Int), .int .i64 (vs : Int)] 27)).trans (hb.mono (by simp; omega)))
  have HV1 := Lib.hid (HV.out.below hb)
  clear hb HV
  go_wp2_with (refine wpList_load_row rfl 88 (.tmp 4) rfl w.heap.size rfl 88 (recC n f) (0, 0) _ HV1.out.1 Try.underlying88 rfl HZ.out ?_)
  refine (flong_any n f hn k hk hm hs hW x hx hx2 _).mono ?_
  rintro e w2 ⟨rfl, hb⟩
  rw [HL.out]
  have B2 := Lib.hid (B1.out.trans (hb.mono B1.out.size))
  have HV2 := HV1.out.below hb
  clear hb HV1 B1
  go_wp2_with fail
  obtain ⟨B, hB⟩ : ∃ B, w.heap.size = B := ⟨_, rfl⟩
  obtain ⟨V, hVV⟩ : ∃ V, B + 1 = V := ⟨_, rfl⟩
  rw [hB] at HV2 ⊢
  rw [hVV] at HV2 ⊢
  clear hB hVV
  have hu := Try.underlying88
  have hi : (Try.prog.info? 88).map (·.size) = some (recC n f).toList.length := by rw [Array.length_toList]; exact HZ.out
  have i0 : 0 ≤ (k : Int) := by omega
  have i1 : (k : Int) < 33 := by omega
  refine wp_region_held_drew (S := (fun x => x.cell? ⟨V, 0, none⟩ = some (.pointer (some ⟨A, 0, none⟩)) ∧ x.cell? ⟨V, 1, none⟩ = some (.int .i64 (va : Int)) ∧ x.cell? ⟨V, 2, none⟩ = some (.int .i64 (vs : Int)) ∧ x.cell? ⟨B, 1 + k, none⟩ = some (.int .i64 ((f k : Nat) : Int)) ∧ x.rangeAt B 0 (recC n f).toList ∧ RV B V n f A va vs x)) (by kernel_rfl) ((HV2.below (Below.refl _ _).drew).all k (by omega)) (fun hHeld => ?_)
  refine wpAnyH_take (i := 0) (v := .agg #[.pointer (some ⟨A, 0, none⟩), .int .i64 (va : Int), .int .i64 (vs : Int)]) rfl (by kernel_rfl) (by kernel_rfl) (by kernel_rfl) (fun _ _ _ h => h) (Or.inl ⟨by rfl, fun X hS => ?_⟩) hHeld ?_
  · obtain ⟨s1, s2, s3, s4, _, _⟩ := hS
    go_simp
  simp only [Act.put, List.getElem_toArray, List.getElem_cons_zero, List.getElem_cons_succ, List.setIfInBounds_toArray, List.set_cons_zero, List.set_cons_succ]
  refine wpAnyH_take (i := 1) (v := .int .i64 (k : Int)) rfl (by kernel_rfl) (by kernel_rfl) (by kernel_rfl) (fun _ _ _ h => h) (Or.inl ⟨by rfl, fun X hS => ?_⟩) hHeld ?_
  · obtain ⟨s1, s2, s3, s4, _, _⟩ := hS
    go_simp
  simp only [Act.put, List.getElem_toArray, List.getElem_cons_zero, List.getElem_cons_succ, List.setIfInBounds_toArray, List.set_cons_zero, List.set_cons_succ]
  refine wpAnyH_take (i := 2) (v := .pointer (some ⟨B, 1, none⟩)) rfl (by kernel_rfl) (by kernel_rfl) (by kernel_rfl) (fun _ _ _ h => h) (Or.inl ⟨by rfl, fun X hS => ?_⟩) hHeld ?_
  · obtain ⟨s1, s2, s3, s4, _, _⟩ := hS
    go_simp
  simp only [Act.put, List.getElem_toArray, List.getElem_cons_zero, List.getElem_cons_succ, List.setIfInBounds_toArray, List.set_cons_zero, List.set_cons_succ]
  refine wpAnyH_take (i := 3) (v := .pointer (some ⟨B, 1 + k, none⟩)) rfl (by kernel_rfl) (by kernel_rfl) (by kernel_rfl) (fun _ _ _ h => h) (Or.inl ⟨by rfl, fun X hS => ?_⟩) hHeld ?_
  · obtain ⟨s1, s2, s3, s4, _, _⟩ := hS
    go_simp
  simp only [Act.put, List.getElem_toArray, List.getElem_cons_zero, List.getElem_cons_succ, List.setIfInBounds_toArray, List.set_cons_zero, List.set_cons_succ]
  refine wpAnyH_take (i := 4) (v := .int .i64 ((f k : Nat) : Int)) rfl (by kernel_rfl) (by kernel_rfl) (by kernel_rfl) (fun _ _ _ h => h) (Or.inl ⟨by rfl, fun X hS => ?_⟩) hHeld ?_
  · obtain ⟨s1, s2, s3, s4, _, _⟩ := hS
    go_simp
  simp only [Act.put, List.getElem_toArray, List.getElem_cons_zero, List.getElem_cons_succ, List.setIfInBounds_toArray, List.set_cons_zero, List.set_cons_succ]
  refine wpAnyH_take (i := 5) (v := .agg (recC n f)) rfl (by kernel_rfl) (by kernel_rfl) (by kernel_rfl) (fun _ _ _ h => h) (yieldsIf_load_mid (by rfl) 88 (.tmp 4) rfl B 0 rfl (recC n f).toList _ (fun X hS => hS.2.2.2.2.1) hu rfl hi) hHeld ?_
  simp only [Act.put, List.getElem_toArray, List.getElem_cons_zero, List.getElem_cons_succ, List.setIfInBounds_toArray, List.set_cons_zero, List.set_cons_succ]
  refine wpAnyH_take (i := 6) (v := .int .i64 (k : Int)) rfl (by kernel_rfl) (by kernel_rfl) (by kernel_rfl) (fun _ _ _ h => h) (Or.inl ⟨by rfl, fun X hS => ?_⟩) hHeld ?_
  · obtain ⟨s1, s2, s3, s4, _, _⟩ := hS
    go_simp
  simp only [Act.put, List.getElem_toArray, List.getElem_cons_zero, List.getElem_cons_succ, List.setIfInBounds_toArray, List.set_cons_zero, List.set_cons_succ]
  refine wpAnyH_take (i := 8) (v := .int .u64 x) rfl (by kernel_rfl) (by kernel_rfl) (by kernel_rfl) (fun _ _ _ h => h) (Or.inl ⟨by rfl, fun X hS => ?_⟩) hHeld ?_
  · obtain ⟨s1, s2, s3, s4, _, _⟩ := hS
    go_simp
  simp only [Act.put, List.getElem_toArray, List.getElem_cons_zero, List.getElem_cons_succ, List.setIfInBounds_toArray, List.set_cons_zero, List.set_cons_succ]
  refine wpAnyH_ready (rs := [7]) (by kernel_rfl) (by simp) ?_
  refine AllReadyH.cons rfl (fun K hK => ?_) AllReadyH.nil
  go_simp
  refine (fwidth_any n f hn k hk hm hs _).mono ?_
  rintro e x1 ⟨rfl, hb1⟩
  have g1 := (HO.out.below (B2.out.trans ((Below.refl _ _).drew.mono B2.out.size))).below hb1
  have k1 := ((HV2.below (Below.refl _ _).drew).below hb1).all k (by omega)
  have W1 := (Went.of_below HO.out (B2.out.trans (((Below.refl _ _).drew.trans hb1).mono B2.out.size)))
  refine hK.out _ _ k1 (fun hHeld => ?_)
  clear hK
  try simp only [Act.put, List.getElem_toArray, List.getElem_cons_zero, List.getElem_cons_succ, List.setIfInBounds_toArray, List.set_cons_zero, List.set_cons_succ]
  refine wpAnyH_ready (rs := [9]) (by kernel_rfl) (by simp) ?_
  refine AllReadyH.cons rfl (fun K hK => ?_) AllReadyH.nil
  go_simp
  refine (on_store g1 va vs h1 h2 (f k : Nat) (f (k + 1) - f k : Nat) x (by omega) hx).mono ?_
  rintro e x2 ⟨rfl, g2, hw2⟩
  have k2 := (k1.2.2.2.2.2.went g1 hw2).all k (by omega)
  have W2 := W1.trans hw2
  refine hK.out _ _ k2 (fun hHeld => ?_)
  clear hK
  try simp only [Act.put, List.getElem_toArray, List.getElem_cons_zero, List.getElem_cons_succ, List.setIfInBounds_toArray, List.set_cons_zero, List.set_cons_succ]
  refine wpAnyH_take (i := 10) (v := .int .i64 (numE s.L s.es (addrV va vs (f k : Nat) (f (k + 1) - f k : Nat)) (f (k + 1) - f k : Nat))) rfl (by kernel_rfl) (by kernel_rfl) (by kernel_rfl) (fun _ _ _ h => h) (Or.inl ⟨by rfl, fun X hS => ?_⟩) hHeld ?_
  · obtain ⟨s1, s2, s3, s4, _, _⟩ := hS
    go_simp
  simp only [Act.put, List.getElem_toArray, List.getElem_cons_zero, List.getElem_cons_succ, List.setIfInBounds_toArray, List.set_cons_zero, List.set_cons_succ]
  refine wpAnyH_done (by kernel_rfl) ?_ _
  have HF := Lib.hid (And.intro g2 W2)
  clear HV2 k1 k2 g1 g2 W1 W2 hw2
  go_wp2_with fail
  go_ret
  exact ⟨rfl, HF.out.1, HF.out.2⟩
end
end Go.Proofs.Ytcbbhefgdonabaa.Bt
/- The contract of field.Of. -/
namespace Go.Proofs.Ytcbbhefgdonabaa.Bt
open Go Go.RowKit Go.Shelf
set_option linter.unusedVariables false
set_option linter.unusedSimpArgs false

def rec0 : Array Value := recC 0 (fun _ => 0)
theorem setRow_ad {x : World} {O : Nat} {c : Array Value} {T : TypeId} (h : x.heap[O]? = some (.cells c T (0, 0))) (d : Array Value) : (x.setRow O d).heap[O]? = some (.cells d T (0, 0)) := setRow_heap _ _ _ _ _ _ h
theorem rec0_size : rec0.size = 34 := recC_size _ _
theorem rec_one (n : Nat) (f : Nat → Nat) : (recC n f).all (·.oneCell') = true := by
  rw [Array.all_eq_true]
  intro i hi
  rw [recC_size] at hi
  rcases i with _ | i
  · have := recC_0 n f; rw [Array.getElem?_eq_getElem (by rw [recC_size]; omega)] at this
    simp only [Option.some.injEq] at this; rw [this]; rfl
  · have := recC_at n f i (by omega); rw [Nat.add_comm, Array.getElem?_eq_getElem (by rw [recC_size]; omega)] at this
    simp only [Option.some.injEq] at this; rw [this]; rfl
theorem built0 : (Try.prog.built 88 []).getD #[] = rec0 := by kernel_rfl
theorem builtN (n : Nat) : (Try.prog.built 88 [(0, .int .i64 (n : Int))]).getD #[] = recC n (fun _ => 0) := by kernel_rfl
theorem of_none (p : Option Addr) (c : Nat) (w : World)  :
    Calls Try.prog 62 #[.slice p 0 c] w (Gives (.tuple #[.agg rec0, .int .i64 17]) w) := by
  have HSZ : Hid ((Try.prog.info? 88).map (·.size) = some rec0.size) := Lib.hid (by rw [rec0_size]; exact Try.infoRec)
  have HB0 := Lib.hid built0
  go_enter Try.func62, Try.ntmps62
  go_upto_region 2 with fail
  obtain ⟨x, hx⟩ : ∃ x, w.alloc (.cells rec0 88) = x := ⟨_, rfl⟩
  have hR : x.heap[w.heap.size]? = some (.cells rec0 88 (0, 0)) := by rw [← hx]; exact heap_new _ _
  have bx : Below w.heap.size w x := by rw [← hx]; exact bel1 _ _
  have HR := Lib.hid hR; have BX := Lib.hid bx
  change Code.wp _ _ _ _ (w.alloc (.cells rec0 88))
  rw [hx]
  clear hR bx hx
  go_wp2_with (first | (refine wpList_build rfl 88 #[] rfl (by kernel_rfl) ?_; simp only [List.map_toArray, List.map_nil]; rw [HB0.out]) | (refine wpList_store_row rfl 88 (.tmp 2) (.tmp 10) rfl w.heap.size rec0 rfl rfl 88 rec0 HR.out HSZ.out rfl (rec_one _ _) ?_))
  have hl := run_loadVar_row (P := Try.prog) (x.setRow w.heap.size rec0) w.heap.size 88 88 rec0 (0, 0) _ (setRow_heap _ _ _ _ _ _ HR.out) Try.underlying88 rfl HSZ.out
  exact bodyPost_ret (v := .tuple #[.agg rec0, .int .i64 17]) (by simp [results, Try.results62, asAddr, hl]) rfl ⟨rfl, below_setRow BX.out (Nat.le_refl _) _⟩
set_option maxRecDepth 100000 in
theorem of_many (p : Option Addr) (n c : Nat) (w : World) (hn : 32 < n) (hn2 : n ≤ 9223372036854775807) :
    Calls Try.prog 62 #[.slice p n c] w (Gives (.tuple #[.agg rec0, .int .i64 15]) w) := by
  have HSZ : Hid ((Try.prog.info? 88).map (·.size) = some rec0.size) := Lib.hid (by rw [rec0_size]; exact Try.infoRec)
  have HB0 := Lib.hid built0
  have d0 : ((n : Int) == 0) = false := by simp; omega
  have d1 : decide (32 < (n : Int)) = true := by simp; omega
  clear hn
  go_enter Try.func62, Try.ntmps62
  go_upto_region 4 with fail
  obtain ⟨x, hx⟩ : ∃ x, w.alloc (.cells rec0 88) = x := ⟨_, rfl⟩
  have hR : x.heap[w.heap.size]? = some (.cells rec0 88 (0, 0)) := by rw [← hx]; exact heap_new _ _
  have bx : Below w.heap.size w x := by rw [← hx]; exact bel1 _ _
  have HR := Lib.hid hR; have BX := Lib.hid bx
  change Code.wp _ _ _ _ (w.alloc (.cells rec0 88))
  rw [hx]
  clear hR bx hx
  go_wp2_with (first | (refine wpList_build rfl 88 #[] rfl (by kernel_rfl) ?_; simp only [List.map_toArray, List.map_nil]; rw [HB0.out]) | (refine wpList_store_row rfl 88 (.tmp 2) (.tmp 14) rfl w.heap.size rec0 rfl rfl 88 rec0 HR.out HSZ.out rfl (rec_one _ _) ?_))
  have hl := run_loadVar_row (P := Try.prog) (x.setRow w.heap.size rec0) w.heap.size 88 88 rec0 (0, 0) _ (setRow_heap _ _ _ _ _ _ HR.out) Try.underlying88 rfl HSZ.out
  exact bodyPost_ret (v := .tuple #[.agg rec0, .int .i64 15]) (by simp [results, Try.results62, asAddr, hl]) rfl ⟨rfl, below_setRow BX.out (Nat.le_refl _) _⟩
/-- a slice of numbers that came in -/
def WsAt (w : World) (p : Option Addr) (ws : List Int) : Prop :=
  ws.length = 0 ∨ ∃ b off, p = some ⟨b, off, none⟩ ∧ b < w.heap.size ∧ ∀ i, i < ws.length → w.cell? ⟨b, off + i, none⟩ = some (.int .i64 (ws.getD i 0))
theorem WsAt.below {w w' : World} {p : Option Addr} {ws : List Int} (h : WsAt w p ws) (hb : Below w.heap.size w w') : WsAt w' p ws := by
  rcases h with h | ⟨b, off, rfl, hlt, hc⟩
  · exact .inl h
  · exact .inr ⟨b, off, rfl, Nat.lt_of_lt_of_le hlt hb.size, fun i hi => (hb.cell (p := ⟨b, off + i, none⟩) hlt).trans (hc i hi)⟩
def sumW (ws : List Int) (i : Nat) : Nat := ((ws.take i).map Int.toNat).sum
theorem sumW_succ (ws : List Int) (i : Nat) (h : i < ws.length) : sumW ws (i + 1) = sumW ws i + (ws.getD i 0).toNat := by
  unfold sumW
  rw [List.take_succ_eq_append_getElem h, List.map_append, List.sum_append]
  simp [List.getD_eq_getElem?_getD, h]
def fP (ws : List Int) (j i : Nat) : Nat := if i ≤ j then sumW ws i else 0
def wOk (x : Int) : Bool := decide (x = 1 ∨ x = 2 ∨ x = 4 ∨ x = 8)
theorem fP_zero (ws : List Int) (n : Nat) : recC n (fP ws 0) = recC n (fun _ => 0) := by
  have e : fP ws 0 = fun _ => 0 := by
    funext i
    unfold fP sumW
    by_cases h : i ≤ 0
    · obtain rfl : i = 0 := by omega
      simp
    · rw [if_neg h]
  rw [e]
theorem fP_step (ws : List Int) (n j : Nat) (hj : j < ws.length) (h33 : j + 1 < 33) (v : Nat) (hv : v = sumW ws (j + 1)) : (recC n (fP ws j)).setIfInBounds (1 + (j + 1)) (.int .i64 (v : Int)) = recC n (fP ws (j + 1)) := by
  subst hv
  apply Array.ext_getElem?
  intro i
  rw [Array.getElem?_setIfInBounds]
  by_cases e : 1 + (j + 1) = i
  · subst e
    rw [if_pos rfl, recC_size, if_pos (by omega), recC_at _ _ _ h33]
    unfold fP; rw [if_pos (Nat.le_refl _)]
  · rw [if_neg e]
    rcases i with _ | i
    · rw [recC_0, recC_0]
    · by_cases hi : i < 33
      · rw [Nat.add_comm, recC_at _ _ _ hi, recC_at _ _ _ hi]
        unfold fP
        by_cases h1 : i ≤ j
        · rw [if_pos h1, if_pos (by omega)]
        · rw [if_neg h1, if_neg (by omega)]
      · rw [Array.getElem?_eq_none (by rw [recC_size]; omega), Array.getElem?_eq_none (by rw [recC_size]; omega)]
theorem take_ok {ws : List Int} {j : Nat} (h : (ws.take j).all wOk = true) : ∀ i, i < j → i < ws.length → wOk (ws.getD i 0) = true := fun i h1 h2 => by
  rw [List.all_eq_true] at h
  refine h _ ?_
  rw [List.getD_eq_getElem?_getD, List.getElem?_eq_getElem h2]
  exact List.mem_take_iff_getElem.2 ⟨i, by omega, rfl⟩
theorem sumW_le {ws : List Int} {j : Nat} (h : (ws.take j).all wOk = true) (hj : j ≤ ws.length) : sumW ws j ≤ 8 * j := by
  induction j with
  | zero => simp [sumW]
  | succ j ih =>
    have h2 := take_ok h j (by omega) (by omega)
    have h3 : (ws.take j).all wOk = true := by
      rw [List.all_eq_true] at h ⊢
      intro x hx
      exact h x ((List.take_prefix_take_left (by omega)).subset hx)
    rw [sumW_succ ws j (by omega)]
    have := ih h3 (by omega)
    have h4 : ws.getD j 0 = 1 ∨ ws.getD j 0 = 2 ∨ ws.getD j 0 = 4 ∨ ws.getD j 0 = 8 := by unfold wOk at h2; simpa using h2
    omega
theorem take_all_succ {ws : List Int} {j : Nat} (h : (ws.take j).all wOk = true) (hj : j < ws.length) (h2 : wOk (ws.getD j 0) = true) : (ws.take (j + 1)).all wOk = true := by
  rw [List.take_succ_eq_append_getElem hj, List.all_append, h]
  simpa [List.getD_eq_getElem?_getD, hj] using h2
def okV (ws : List Int) : Value := if ws.all wOk then .tuple #[.agg (recC ws.length (fP ws ws.length)), .int .i64 0] else .tuple #[.agg rec0, .int .i64 2]
/-- what the loop keeps -/
structure OfAt (R B n j : Nat) (ws : List Int) (w x : World) : Prop where
  r : x.heap[R]? = some (.cells rec0 88 (0, 0))
  b : VR B n (fP ws j) x
  bel : Below w.heap.size w x
set_option maxRecDepth 100000 in
set_option maxHeartbeats 4000000 in
theorem of_in (p : Option Addr) (n c : Nat) (ws : List Int) (hn : n = ws.length) (h0 : 0 < n) (h1 : n ≤ 32) (w : World) (hw : WsAt w p ws) :
    Calls Try.prog 62 #[.slice p n c] w (Gives (okV ws) w) := by
  obtain ⟨b, off, rfl, hlt0, hc⟩ : ∃ b off, p = some ⟨b, off, none⟩ ∧ b < w.heap.size ∧ ∀ i, i < ws.length → w.cell? ⟨b, off + i, none⟩ = some (.int .i64 (ws.getD i 0)) := by
    rcases hw with h | h
    · omega
    · exact h
  have HSZ : Hid ((Try.prog.info? 88).map (·.size) = some rec0.size) := Lib.hid (by rw [rec0_size]; exact Try.infoRec)
  have HSN : Hid (∀ f, (Try.prog.info? 88).map (·.size) = some (recC n f).size) := Lib.hid (fun f => by rw [recC_size]; exact Try.infoRec)
  have HB0 := Lib.hid built0
  have HBN := Lib.hid (builtN n)
  have HCW := Lib.hid hc
  have HN := Lib.hid hn
  have d0 : ((n : Int) == 0) = false := by simp; omega
  have d1 : decide (32 < (n : Int)) = false := by simp; omega
  clear hw hc hn
  go_enter Try.func62, Try.ntmps62
  go_upto_region 5 with fail
  obtain ⟨x, hx⟩ : ∃ x, w.alloc (.cells rec0 88) = x := ⟨_, rfl⟩
  have hR : x.heap[w.heap.size]? = some (.cells rec0 88 (0, 0)) := by rw [← hx]; exact heap_new _ _
  have bx : Below w.heap.size w x := by rw [← hx]; exact bel1 _ _
  have hs : x.heap.size = w.heap.size + 1 := by rw [← hx]; simp
  have HR := Lib.hid hR; have BX := Lib.hid bx; have HS := Lib.hid hs
  change Code.wp _ _ _ _ (w.alloc (.cells rec0 88))
  rw [hx]
  clear hR bx hx hs
  have hB := heap_new x (.cells rec0 88)
  have HB := Lib.hid hB
  clear hB
  go_upto_region 6 with (first | (refine wpList_build rfl 88 #[(0, .tmp 16)] rfl (by kernel_rfl) ?_; simp only [List.map_toArray, List.map_nil, List.map_cons]; rw [show _ = recC n (fun _ => 0) from HBN.out]) | (refine wpList_store_row rfl 88 (.tmp 4) (.tmp 17) rfl x.heap.size (recC n (fun _ => 0)) rfl rfl 88 rec0 HB.out (HSN.out _) (by rw [rec0_size, recC_size]) (rec_one _ _) ?_; simp only [Act.put, List.setIfInBounds_toArray, List.set_cons_zero, List.set_cons_succ]))
  obtain ⟨y, hy⟩ : ∃ y, (x.alloc (.cells rec0 88)).setRow x.heap.size (recC n (fun _ => 0)) = y := ⟨_, rfl⟩
  obtain ⟨B, hBB⟩ : ∃ B, x.heap.size = B := ⟨_, rfl⟩
  obtain ⟨R, hRR⟩ : ∃ R, w.heap.size = R := ⟨_, rfl⟩
  have hle : w.heap.size ≤ B ∧ R < B := by have := HS.out; omega
  have hO : OfAt R B n 0 ws w y := by
    have hb := setRow_ad HB.out (recC n (fun _ => 0))
    refine ⟨?_, ?_, ?_⟩
    · rw [← hy, setRow_other _ _ _ _ (by omega), ← hRR]; exact (Below.heap_alloc _ _ _ (by have := HS.out; omega)).trans HR.out
    · unfold VR; rw [fP_zero, ← hy, ← hBB]; exact hb
    · rw [← hy]; exact below_setRow (BX.out.alloc BX.out.size _) (by omega) _
  change Code.wp _ _ _ _ ((x.alloc (.cells rec0 88)).setRow x.heap.size (recC n (fun _ => 0)))
  rw [hy, hBB, hRR]
  have HO := Lib.hid hO; have HRR := Lib.hid hRR
  clear hO hy hBB HB BX HR HS hRR
  go_wp2_with fail
  go_loopw [20] (fun v wr => ∃ j : Nat, j ≤ n ∧ v = .int .i64 (j : Int) ∧ (ws.take j).all wOk = true ∧ OfAt R B n j ws w wr) (fun v _ => n - (intOf v).toNat)
  case atStart => exact ⟨0, Nat.zero_le _, rfl, by simp, HO.out⟩
  case round =>
    obtain ⟨j, hj, rfl, ha, ho⟩ := hrel
    have HA := Lib.hid ha; have HOJ := Lib.hid ho
    clear ha ho HO
    by_cases hlt : j < n
    · have hjw : j < ws.length := by have := HN.out; omega
      have hcj : wr.cell? ⟨b, off + j, none⟩ = some (.int .i64 (ws.getD j 0)) := (HOJ.out.bel.cell (p := ⟨b, off + j, none⟩) hlt0).trans (HCW.out j hjw)
      have hcf := HOJ.out.b.f j (by omega)
      have hff := (cell_blk HOJ.out.b (1 + (j + 1))).2
      have hcg := HOJ.out.b.f (j + 1) (by omega)
      cases hok : wOk (ws.getD j 0) with
      | true =>
        have HOK := Lib.hid hok
        obtain ⟨g, hg⟩ : ∃ g, ws.getD j 0 = g := ⟨_, rfl⟩
        have HG := Lib.hid hg
        rw [hg] at hcj hok
        have h4 : g = 1 ∨ g = 2 ∨ g = 4 ∨ g = 8 := by unfold wOk at hok; simpa using hok
        have hfb : ((fP ws j j : Nat) : Int) ≤ 256 := by
          have := sumW_le HA.out (by omega)
          unfold fP; rw [if_pos (Nat.le_refl _)]; omega
        have hfs : ∀ k : Nat, g = k → fP ws j j + k = sumW ws (j + 1) := fun k hk => by
          unfold fP; rw [if_pos (Nat.le_refl _), sumW_succ ws j hjw, HG.out, hk, Int.toNat_natCast]
        have HFS := Lib.hid hfs
        have hrb : Below w.heap.size w wr := HOJ.out.bel
        clear hok hg hfs
        have HRB := Lib.hid hrb
        clear hrb
        rcases h4 with rfl | rfl | rfl | rfl
        all_goals
          go_wp2_with fail
          go_roundw
          case rel =>
            refine ⟨j + 1, by omega, by go_num, take_all_succ HA.out hjw HOK.out, (set_other _ (by omega)).trans HOJ.out.r, ?_, HOJ.out.bel.setCell (p := ⟨B, _, none⟩) hle.1 _⟩
            unfold VR
            rw [← fP_step ws n j hjw (by omega) _ (HFS.out _ rfl)]
            exact heap_set HOJ.out.b _
          case measure => simp [intOf]; omega
      | false =>
        have HV : Hid (okV ws = .tuple #[.agg rec0, .int .i64 2]) := Lib.hid (by
          unfold okV; rw [if_neg]
          intro hall
          rw [List.all_eq_true] at hall
          have := hall (ws.getD j 0) (by rw [List.getD_eq_getElem?_getD, List.getElem?_eq_getElem hjw]; exact List.getElem_mem hjw)
          rw [hok] at this; cases this)
        obtain ⟨g, hg⟩ : ∃ g, ws.getD j 0 = g := ⟨_, rfl⟩
        rw [hg] at hcj hok
        have h4 : ¬ g = 1 ∧ ¬ g = 2 ∧ ¬ g = 4 ∧ ¬ g = 8 := by unfold wOk at hok; simpa [not_or] using hok
        obtain ⟨k1, k2, k3, k4⟩ := h4
        have e1 : (g != 1) = true := by simpa using k1
        have e2 : (g != 2) = true := by simpa using k2
        have e3 : (g != 4) = true := by simpa using k3
        have e4 : (g != 8) = true := by simpa using k4
        clear hok hg k1 k2 k3 k4 hcf hff hcg
        go_wp2_with (first | (refine wpList_build rfl 88 #[] rfl (by kernel_rfl) ?_; simp only [List.map_toArray, List.map_nil]; rw [HB0.out]) | (refine wpList_store_row rfl 88 (.tmp 2) (.tmp 39) rfl R rec0 rfl rfl 88 rec0 HOJ.out.r HSZ.out rfl (rec_one _ _) ?_))
        have hl := run_loadVar_row (P := Try.prog) (wr.setRow R rec0) R 88 88 rec0 (0, 0) _ (setRow_ad HOJ.out.r rec0) Try.underlying88 rfl HSZ.out
        exact bodyPost_ret (v := .tuple #[.agg rec0, .int .i64 2]) (by simp [results, Try.results62, asAddr, hl]) rfl ⟨by rw [HV.out], below_setRow HOJ.out.bel (by have := HRR.out; omega) _⟩
    · have hje : j = n := by omega
      have HV : Hid (okV ws = .tuple #[.agg (recC n (fP ws n)), .int .i64 0]) := Lib.hid (by
        have hn := HN.out
        have hall : ws.all wOk = true := by have := HA.out; rw [hje, hn, List.take_length] at this; exact this
        unfold okV; rw [if_pos hall, ← hn])
      have HOn : Hid (OfAt R B n n ws w wr) := Lib.hid (hje ▸ HOJ.out)
      clear hje
      go_wp2_with (first | (refine wpList_load_row rfl 88 (.tmp 4) rfl B rfl 88 (recC n (fP ws n)) (0, 0) _ HOn.out.b Try.underlying88 rfl (HSN.out _) ?_) | (refine wpList_store_row rfl 88 (.tmp 2) (.tmp 51) rfl R (recC n (fP ws n)) rfl rfl 88 rec0 HOn.out.r (HSN.out _) (by rw [rec0_size, recC_size]) (rec_one _ _) ?_))
      have hl := run_loadVar_row (P := Try.prog) (wr.setRow R (recC n (fP ws n))) R 88 88 (recC n (fP ws n)) (0, 0) _ (setRow_ad HOn.out.r _) Try.underlying88 rfl (HSN.out _)
      exact bodyPost_ret (v := .tuple #[.agg (recC n (fP ws n)), .int .i64 0]) (by simp [results, Try.results62, asAddr, hl]) rfl ⟨by rw [HV.out], below_setRow HOn.out.bel (by have := HRR.out; omega) _⟩
end Go.Proofs.Ytcbbhefgdonabaa.Bt
/- The contract of Decommit: what it returns, and what it turns. -/
namespace Go.Proofs.Ytcbbhefgdonabaa.Bt
open Go Go.RowKit Go.Shelf
set_option linter.unusedVariables false

/-- the pages from a on, k of them, gone -/
def clrP (ps : List (Option Nat)) (a k : Nat) : List (Option Nat) := ps.take a ++ List.replicate k none ++ ps.drop (a + k)
theorem clrP_length (ps : List (Option Nat)) (a k : Nat) (h : a + k ≤ ps.length) : (clrP ps a k).length = ps.length := by simp [clrP]; omega
theorem clrP_get (ps : List (Option Nat)) (a k : Nat) (h : a + k ≤ ps.length) (i : Nat) : (clrP ps a k)[i]? = if a ≤ i ∧ i < a + k then some none else ps[i]? := by
  unfold clrP
  by_cases h1 : i < a
  · rw [List.append_assoc, List.getElem?_append_left (by rw [List.length_take]; omega), List.getElem?_take, if_pos h1, if_neg (by omega)]
  · by_cases h2 : i < a + k
    · rw [List.append_assoc, List.getElem?_append_right (by rw [List.length_take]; omega), List.length_take, List.getElem?_append_left (by rw [List.length_replicate]; omega), List.getElem?_replicate, if_pos (by omega), if_pos (by omega)]
    · rw [List.getElem?_append_right (by rw [List.length_append, List.length_take, List.length_replicate]; omega), List.length_append, List.length_take, List.length_replicate, List.getElem?_drop, if_neg (by omega)]
      congr 1; omega
def clrM (m : Nat → UInt8) (a k : Nat) : Nat → UInt8 := fun i => if a * 4096 ≤ i ∧ i < (a + k) * 4096 then 0 else m i

theorem run_clear (w : World) (P : Nat) (ps : List (Option Nat)) (a k c : Nat) (hk : 0 < k) (h : a + k ≤ ps.length) (hP : w.heap[P]? = some (.cells (rowV ps) 100 (0, 0))) (ty : TypeId) :
    (Builtin.clear_ #[97] ty #[.slice (some ⟨P, a, none⟩) k c]).run Try.prog w = .ok (.tuple #[]) (w.setRow P (rowV (clrP ps a k))) := by
  obtain ⟨i0, hi, hz0, hz1, hz2⟩ := info_parts Try.infoPtr
  have hz : (Builtin.zeroCells (Value.pointer none).cells k).toList = List.replicate k (.pointer none) := by
    apply List.ext_getElem?
    intro j
    by_cases hj : j < k
    · simp [Builtin.zeroCells, Value.cells, hj, Nat.mod_one]
    · rw [List.getElem?_eq_none (by simp [Builtin.zeroCells, Value.cells]; omega), List.getElem?_eq_none (by simp; omega)]
  have hst := run_storeCells_at Try.prog P a 100 (List.replicate k (.pointer none)) 0 (rowV ps) w hP (by simp [rowV]; omega) (fun v hv => by rw [List.eq_of_mem_replicate hv]; rfl)
  have he : ((rowV ps).toList.take (a + 0) ++ List.replicate k (Value.pointer none) ++ (rowV ps).toList.drop (a + 0 + (List.replicate k (Value.pointer none)).length)).toArray = rowV (clrP ps a k) := by
    simp [rowV, clrP, ptrV, List.map_take, List.map_drop, List.map_replicate]
  rw [he] at hst
  obtain ⟨k', rfl⟩ : ∃ k', k = k' + 1 := ⟨k - 1, by omega⟩
  simp [Builtin.clear_, run_underlying Try.underlying97, zeroValue, typeInfo, hi, hz0, hz]
  rw [hst]; rfl
section
variable {A P n cap : Nat} {s : ASt} {ps : List (Option Nat)} {p : Option Addr} {w : World}
theorem cleared (h : ArX A s P ps p n cap w) (a k : Nat) (hk : a + k ≤ s.L) :
    ArX A { s with mm := clrM s.mm a k } P (clrP ps a k) p n cap (w.setRow P (rowV (clrP ps a k))) ∧ Step A P ps (clrP ps a k) w (w.setRow P (rowV (clrP ps a k))) := by
  have hkl : a + k ≤ ps.length := by rw [h.len]; exact hk
  have hget : ∀ i b : Nat, (clrP ps a k)[i]? = some (some b) → ps[i]? = some (some b) ∧ ¬ (a ≤ i ∧ i < a + k) := fun i b hi => by
    rw [clrP_get ps a k hkl] at hi
    by_cases c : a ≤ i ∧ i < a + k
    · rw [if_pos c] at hi; cases hi
    · rw [if_neg c] at hi; exact ⟨hi, c⟩
  refine ⟨{ h with
    len := by rw [clrP_length ps a k hkl]; exact h.len
    hd := (setRow_other _ _ _ _ h.ap).trans h.hd
    row := setRow_heap _ _ _ _ _ _ h.row
    pg := fun i b hi => ?_
    no := fun i hi j hj => ?_
    un := fun i b hi => h.un i b (hget i b hi).1
    edges := h.edges.keep fun b off e => setRow_other _ _ _ _ (h.eap b off e).2.1
    apg := fun i b hi => h.apg i b (hget i b hi).1
    one := fun i j b hi hj => h.one i j b (hget i b hi).1 (hget j b hj).1
    eap := fun b off e => ⟨(h.eap b off e).1, (h.eap b off e).2.1, fun i hi => (h.eap b off e).2.2 i (hget i b hi).1⟩ }, ⟨rfl, rfl, rfl, by rw [setRow_size]; exact Nat.le_refl _, fun k _ hn => setRow_other _ _ _ _ (fun e => hn (.inr (.inl e))), fun i b hi => .inl (hget i b hi).1⟩⟩
  · obtain ⟨h1, h2⟩ := hget i b hi
    refine (setRow_other _ _ _ _ (h.apg i b h1).2).trans ((h.pg i b h1).trans ?_)
    rw [pg_ext fun j hj => ?_]
    show s.mm (i * 4096 + j) = clrM s.mm a k (i * 4096 + j)
    unfold clrM
    rw [if_neg]
    rintro ⟨x1, x2⟩
    exact h2 ⟨by omega, by omega⟩
  · show clrM s.mm a k (i * 4096 + j) = 0
    unfold clrM
    by_cases c : a * 4096 ≤ i * 4096 + j ∧ i * 4096 + j < (a + k) * 4096
    · rw [if_pos c]
    · rw [if_neg c]
      rw [clrP_get ps a k hkl] at hi
      rw [if_neg (by rintro ⟨x1, x2⟩; exact c ⟨by omega, by omega⟩)] at hi
      exact h.no i hi j hj

def decE (s : ASt) (a k : Int) : Int := if countE s.L a k ≠ 0 then countE s.L a k else if countR s.L s.es a k < k then 8 else 0
def decS (s : ASt) (a k : Int) : ASt := if decE s a k = 0 then { s with es := laidS s.L s.es a k false, mm := clrM s.mm a.toNat k.toNat } else s
end
end Go.Proofs.Ytcbbhefgdonabaa.Bt
/- Numbers laid and read. -/
namespace Go.Proofs.Ytcbbhefgdonabaa.Bt
open Go Go.RowKit Go.Shelf
set_option linter.unusedVariables false

theorem numV_congr {m m' : Nat → UInt8} {a k : Nat} (h : ∀ j, j < k → m (a + j) = m' (a + j)) : numV m a k = numV m' a k := by
  induction k with
  | zero => rfl
  | succ k ih => unfold numV; rw [ih fun j hj => h j (by omega), h k (by omega)]
theorem numV_store (m : Nat → UInt8) (a : Nat) (x : Int) (k : Nat) : numV (putM m a (numB x k)) a k = x.toNat % 2 ^ (8 * k) := by
  have key : ∀ j, j ≤ k → numV (putM m a (numB x k)) a j = x.toNat % 2 ^ (8 * j) := by
    intro j
    induction j with
    | zero => intro _; simp [numV, Nat.mod_one]
    | succ j ih =>
      intro hj
      unfold numV
      rw [ih (by omega), putM_in _ _ _ (by rw [numB_length]; omega)]
      have e : (numB x k).getD j 0 = byteN x j := by simp [numB, List.getD_eq_getElem?_getD, show j < k from by omega]
      rw [e]
      unfold byteN
      have e2 : 2 ^ (8 * (j + 1)) = 2 ^ (8 * j) * 256 := by rw [show 8 * (j + 1) = 8 * j + 8 from by omega, Nat.pow_add]
      rw [e2, Nat.mod_mul]
      simp [Nat.mul_comm]
  exact key k (Nat.le_refl k)
/-- no other bytes laid -/
theorem putS_full {m : Nat → UInt8} {y : Int} {x : List UInt8} (an kn : Nat) (h : y < 0 ∨ (an : Int) + kn ≤ y ∨ y + (x.length : Int) ≤ an) :
    ∃ m', putS (fullS 8 m) y x = fullS 8 m' ∧ ∀ j, j < kn → m' (an + j) = m (an + j) := by
  unfold putS
  split
  · rename_i ht
    have hy : 0 ≤ y := by
      have e := thereE_full (L := 8) (by omega) (by omega) y x.length
      rw [show thereE (fullS 8 m).L (fullS 8 m).es y x.length = thereE 8 [0, 8] y x.length from rfl] at ht
      rw [e] at ht
      split at ht
      · omega
      · cases ht
    exact ⟨putM m y.toNat x, rfl, fun j hj => putM_out _ _ _ (by omega)⟩
  · exact ⟨m, rfl, fun _ _ => rfl⟩
end Go.Proofs.Ytcbbhefgdonabaa.Bt
/- Noughts; numbers laid and read. -/
namespace Go.Proofs.Ytcbbhefgdonabaa.Bt
open Go Go.RowKit Go.Shelf
set_option linter.unusedVariables false

theorem noughts_any (k : Nat) (hk : k ≤ 4294967296) (w : World) : Calls Try.prog 107 #[.int .i64 k] w fun e w' => e = .returned (.string (strL (List.replicate k 0))) ∧ Below w.heap.size w w' := by
  have HMK := run_bytes (a := 0) k (fun _ => 0) hk w
  have HCV : (convert 61 9 (.slice (some ⟨w.heap.size, 0, none⟩) k k)).run Try.prog (w.alloc (.cells (outV (a := 0) (n := k) (fun _ => 0) []) 5)) = .ok (.string (strL (List.replicate k 0))) (w.alloc (.cells (outV (a := 0) (n := k) (fun _ => 0) []) 5)) := by
    have h := run_convert_bytes_arg (P := Try.prog) (w.alloc (.cells (outV (a := 0) (n := k) (fun _ => 0) []) 5)) 61 5 Try.underlying61 Try.underlying5 w.heap.size 0 k k ((List.range k).map fun i => 0) (by simp) (fun i hi => by
      rw [(cell_blk (heap_new w _) _).1, Nat.zero_add, outV_get _ [] i hi]
      simp [List.getD_eq_getElem?_getD, hi, cov]) 9 Try.underlying9
    have e2 : strOfNums ((List.range k).map fun i => 0) = strL (List.replicate k 0) := by
      have e : ∀ l : List Nat, ((l.map fun _ => (0 : Int)).map fun n : Int => UInt8.ofNat n.toNat) = List.replicate l.length 0 := by
        intro l
        induction l with
        | nil => rfl
        | cons a l ih => rw [List.map_cons, List.map_cons, ih, List.length_cons, List.replicate_succ]; rfl
      unfold strOfNums strL
      rw [e, List.length_range]
    rw [e2] at h
    exact h
  go_enter Try.func107, Try.ntmps107
  go_wp2_with fail
  go_ret
  exact ⟨rfl, (Below.refl _ _).alloc (Nat.le_refl _) _⟩
end Go.Proofs.Ytcbbhefgdonabaa.Bt
/- The document's arena of one page, made and committed, as the statements of layer 5 make it. -/
namespace Go.Proofs.Ytcbbhefgdonabaa.Bt
open Go Go.RowKit Go.Shelf
set_option linter.unusedVariables false

abbrev docV (p : Option Addr) (n cap : Nat) (r : Int) : Value := .agg #[.slice p n cap, .int .i64 r]
theorem Try.infoString : (Try.prog.info? 9).map (fun i => (i.zero, i.size, i.bytes)) = some (some (.string ⟨#[]⟩), 1, 16) := by kernel_rfl
def strC (l : List ByteArray) : Array Value := (l.map Value.string).toArray
theorem strC_get (l : List ByteArray) (i : Nat) (h : i < l.length) : (strC l)[i]? = some (.string l[i]) := by simp [strC, h]
theorem strC_size (l : List ByteArray) : (strC l).size = l.length := by simp [strC]
theorem made_strs (n : Nat) : madeCells (Value.string ⟨#[]⟩).cells (n * 1) = strC (List.replicate n ⟨#[]⟩) := by
  apply Array.ext_getElem?
  intro j
  by_cases hj : j < n
  · rw [strC_get _ _ (by simpa using hj)]; simp [madeCells, hj, Value.cells, Nat.mod_one]
  · rw [Array.getElem?_eq_none (by rw [size_madeCells]; omega), Array.getElem?_eq_none (by simp [strC]; omega)]
theorem run_strs (n : Nat) (hn : n ≤ 1048576) (w : World) :
    (Instr.makeSlice 139 (.int .i64 (n : Int)) (.int .i64 (n : Int))).run Try.prog w = .ok (.slice (some ⟨w.heap.size, 0, none⟩) n n) (w.alloc (.cells (strC (List.replicate n ⟨#[]⟩)) 9)) := by
  obtain ⟨i0, hi, hz0, hz1, hz2⟩ := info_parts Try.infoString
  have h := run_make (P := Try.prog) w 139 9 i0 (.string ⟨#[]⟩) Try.underlying139 hi hz0 .i64 .i64 (n : Int) n (by omega) (Int.le_refl _) (by rw [hz2]; omega) (by omega)
  rw [Int.toNat_natCast, hz1, made_strs] at h
  exact h
def DocNew (w : World) (e : Ending) (w' : World) : Prop := ∃ b, e = .returned (docV (some ⟨b, 0, none⟩) 1 1 (-1)) ∧ w'.heap[b]? = some (.cells #[.string ⟨#[]⟩] 9 (0, 0)) ∧ Below w.heap.size w w'
theorem rnew_one (w : World) : Calls Try.prog 95 #[.int .i64 1] w (DocNew w) := by
  have HMK : ∀ w : World, (Instr.makeSlice 139 (.int .i64 1) (.int .i64 1)).run Try.prog w = .ok (.slice (some ⟨w.heap.size, 0, none⟩) 1 1) (w.alloc (.cells #[.string ⟨#[]⟩] 9)) := fun w => run_strs 1 (by omega) w
  go_enter Try.func95, Try.ntmps95
  go_wp2_with fail
  exact bodyPost_ret (v := docV (some ⟨w.heap.size + 1, 0, none⟩) 1 1 (-1)) (by simp [results, Try.results95, go_sem]) rfl ⟨_, rfl, heap_old2 _ _ _, below2 _ _ _⟩
theorem rhas_one (b : Nat) (r : Int) (w : World) (hb : w.heap[b]? = some (.cells #[.string ⟨#[]⟩] 9 (0, 0))) :
    Calls Try.prog 115 #[docV (some ⟨b, 0, none⟩) 1 1 r, .int .i64 0] w (Gives (.bool false) w) := by
  have h2 := (bel1 w (.cells #[.slice (some ⟨b, 0, none⟩) 1 1, .int .i64 r] 141)).block b (Array.getElem?_eq_some_iff.1 hb).1
  have c0 := (cell_blk (h2.trans hb) 0).1
  clear hb h2
  go_enter Try.func115, Try.ntmps115
  go_wp2_with fail
  go_ret
  exact ⟨rfl, bel1 _ _⟩
set_option maxHeartbeats 1000000 in
theorem rwrong_one (b : Nat) (r : Int) (w : World) (hb : w.heap[b]? = some (.cells #[.string ⟨#[]⟩] 9 (0, 0))) :
    Calls Try.prog 106 #[docV (some ⟨b, 0, none⟩) 1 1 r, .int .i64 0, .int .i64 1, .bool false, .int .i64 9] w (Gives (.int .i64 0) w) := by
  have HB := Lib.hid hb
  have hbl := Lib.hid (bel1 w (.cells #[.slice (some ⟨b, 0, none⟩) 1 1, .int .i64 r] 141))
  have hv := Lib.hid (heap_new w (.cells #[.slice (some ⟨b, 0, none⟩) 1 1, .int .i64 r] 141))
  clear hb
  go_enter Try.func106, Try.ntmps106
  go_wp2_with fail
  obtain ⟨V, hV⟩ : ∃ V, w.heap.size = V := ⟨_, rfl⟩
  obtain ⟨w1, hw1⟩ : ∃ x, w.alloc (.cells #[.slice (some ⟨b, 0, none⟩) 1 1, .int .i64 r] 141) = x := ⟨_, rfl⟩
  rw [hw1] at hv hbl ⊢
  rw [hV] at hv ⊢
  have HVV := Lib.hid hV
  clear hw1 hV
  go_loopw [11] (fun v wr => ∃ k : Nat, k ≤ 1 ∧ v = .int .i64 (k : Int) ∧ wr.heap[V]? = some (.cells #[.slice (some ⟨b, 0, none⟩) 1 1, .int .i64 r] 141 (0, 0)) ∧ wr.heap[b]? = some (.cells #[.string ⟨#[]⟩] 9 (0, 0)) ∧ Below w.heap.size w wr) (fun v _ => 1 - (intOf v).toNat)
  case atStart => exact ⟨0, by omega, rfl, hv.out, (hbl.out.block b (Array.getElem?_eq_some_iff.1 HB.out).1).trans HB.out, hbl.out⟩
  case round =>
    obtain ⟨k, hk, rfl, h1, h2, h3⟩ := hrel
    have c0 := (cell_blk h1 0).1; have c1 := (cell_blk h1 1).1
    have H1 := Lib.hid h1; have H2 := Lib.hid h2; have H3 := Lib.hid h3
    clear h1 h2 h3 hv
    by_cases hlt : k < 1
    · obtain rfl : k = 0 := by omega
      go_wp2_with fail
      refine (rhas_one b r _ H2.out).mono ?_
      rintro e w2 ⟨rfl, hb⟩
      have H4 := Lib.hid ((hb.block V (Array.getElem?_eq_some_iff.1 H1.out).1).trans H1.out)
      have H5 := Lib.hid ((hb.block b (Array.getElem?_eq_some_iff.1 H2.out).1).trans H2.out)
      have H6 := Lib.hid (H3.out.trans (hb.mono H3.out.size))
      clear hb c0 c1 hlt hk
      go_wp2_with fail
      go_roundw
      case rel => exact ⟨1, by omega, by go_num, H4.out, H5.out, H6.out⟩
      case measure => simp [intOf]
    · go_wp2_with fail
      go_ret
      exact ⟨rfl, H3.out⟩
theorem copy_one (x : World) (O b : Nat) (sc : Nat) (u v : ByteArray) (hO : x.heap[O]? = some (.cells #[.string u] 9 (0, 0))) (hb : x.cell? ⟨b, 0, none⟩ = some (.string v)) (ty : TypeId) :
    (Builtin.copy_ #[139, 139] ty #[.slice (some ⟨O, 0, none⟩) 1 1, .slice (some ⟨b, 0, none⟩) 1 sc]).run Try.prog x = .ok (goInt 1) (x.setRow O #[.string v]) := by
  obtain ⟨i0, hi, hz0, hz1, hz2⟩ := info_parts Try.infoString
  have h := run_copy_row Try.prog x 139 139 ty 9 O 0 1 1 ⟨b, 0, none⟩ 1 sc #[.string u] 9 [.string v] Try.underlying139 (by rw [hi]; simp [hz1]) hO rfl
    (fun j v' hj => by
      have hjl : j < 1 := (List.getElem?_eq_some_iff.1 hj).1
      obtain rfl : j = 0 := by omega
      simp at hj
      rw [addr_add, hb, hj]) (by simp) (fun v hv => by simp at hv; subst hv; rfl)
  exact h
theorem setRow_at {x : World} {O : Nat} {c : Array Value} {T : TypeId} (h : x.heap[O]? = some (.cells c T (0, 0))) (d : Array Value) : (x.setRow O d).heap[O]? = some (.cells d T (0, 0)) := setRow_heap _ _ _ _ _ _ h
theorem heap_far_one {x : World} {B R o : Nat} (hne : B ≠ R) (u : Value) : (x.setCell ⟨R, o, none⟩ u).heap[B]? = x.heap[B]? := Below.heap_setCell _ ⟨R, o, none⟩ _ _ hne
def DocOne (w : World) (s : ByteArray) (r : Int) (e : Ending) (w' : World) : Prop := ∃ b, e = .returned (docV (some ⟨b, 0, none⟩) 1 1 r) ∧ w'.heap[b]? = some (.cells #[.string s] 9 (0, 0)) ∧ Below w.heap.size w w'
set_option maxHeartbeats 1000000 in
theorem rwith_one (b q : Nat) (qc : Nat) (r : Int) (s : ByteArray) (w : World) (hb : w.heap[b]? = some (.cells #[.string ⟨#[]⟩] 9 (0, 0))) (hq : w.cell? ⟨q, 0, none⟩ = some (.string s)) :
    Calls Try.prog 108 #[docV (some ⟨b, 0, none⟩) 1 1 r, .int .i64 0, .slice (some ⟨q, 0, none⟩) 1 qc] w (DocOne w s r) := by
  have HMK : ∀ w : World, (Instr.makeSlice 139 (.int .i64 1) (.int .i64 1)).run Try.prog w = .ok (.slice (some ⟨w.heap.size, 0, none⟩) 1 1) (w.alloc (.cells #[.string ⟨#[]⟩] 9)) := fun w => run_strs 1 (by omega) w
  have HB := Lib.hid hb; have HQ := Lib.hid hq
  clear hb hq
  go_enter Try.func108, Try.ntmps108
  go_upto_region 2 with fail
  have hsz : ((((w.alloc (.cells #[.slice (some ⟨b, 0, none⟩) 1 1, .int .i64 r] 141)).alloc (.cells #[.slice none 0 0, .int .i64 0] 141)).alloc (.cells #[.string ⟨#[]⟩] 9))).heap.size = w.heap.size + 3 := by simp
  have BL : Below w.heap.size w ((((w.alloc (.cells #[.slice (some ⟨b, 0, none⟩) 1 1, .int .i64 r] 141)).alloc (.cells #[.slice none 0 0, .int .i64 0] 141)).alloc (.cells #[.string ⟨#[]⟩] 9))) := (below2 w _ _).alloc (by simp; omega) _
  obtain ⟨h4a, h4b, h4c⟩ := three_new w #[.slice (some ⟨b, 0, none⟩) 1 1, .int .i64 r] #[.slice none 0 0, .int .i64 0] #[.string ⟨#[]⟩] 141 141 9
  obtain ⟨x, hx⟩ : ∃ x, ((((w.alloc (.cells #[.slice (some ⟨b, 0, none⟩) 1 1, .int .i64 r] 141)).alloc (.cells #[.slice none 0 0, .int .i64 0] 141)).alloc (.cells #[.string ⟨#[]⟩] 9))) = x := ⟨_, rfl⟩
  rw [hx] at BL h4a h4b h4c hsz ⊢
  clear hx
  have hxb := (BL.block b (Array.getElem?_eq_some_iff.1 HB.out).1).trans HB.out
  have hlb := (Array.getElem?_eq_some_iff.1 HB.out).1
  have hxq : x.cell? ⟨q, 0, none⟩ = some (.string s) := by
    rw [BL.cell (p := ⟨q, 0, none⟩) (World.block_lt_of_cell? _ _ HQ.out)]; exact HQ.out
  have hlq := World.block_lt_of_cell? _ _ HQ.out
  obtain ⟨V, hV⟩ : ∃ V, w.heap.size = V := ⟨_, rfl⟩
  rw [hV] at h4a h4b h4c hsz hlb hlq ⊢
  have HCP1 : ∀ ty, (Builtin.copy_ #[139, 139] ty #[.slice (some ⟨V + 1 + 1, 0, none⟩) 1 1, .slice (some ⟨b, 0, none⟩) 1 1]).run Try.prog x = .ok (goInt 1) (x.setRow (V + 1 + 1) #[.string ⟨#[]⟩]) := fun ty => copy_one x _ _ _ _ _ h4c ((cell_blk hxb 0).1) ty
  have h5 := setRow_at h4c #[.string ⟨#[]⟩]
  have hq5 : (x.setRow (V + 1 + 1) #[.string ⟨#[]⟩]).cell? ⟨q, 0, none⟩ = some (.string s) := by
    rw [← hxq]; unfold World.cell?; rw [setRow_other _ _ _ _ (by show q ≠ V + 1 + 1; have : q < V := hlq; omega)]
  have HCP2 : ∀ ty, (Builtin.copy_ #[139, 139] ty #[.slice (some ⟨V + 1 + 1, 0, none⟩) 1 1, .slice (some ⟨q, 0, none⟩) 1 qc]).run Try.prog (x.setRow (V + 1 + 1) #[.string ⟨#[]⟩]) = .ok (goInt 1) ((x.setRow (V + 1 + 1) #[.string ⟨#[]⟩]).setRow (V + 1 + 1) #[.string s]) := fun ty => copy_one _ _ _ _ _ _ h5 hq5 ty
  have hA6 : ((x.setRow (V + 1 + 1) #[.string ⟨#[]⟩]).setRow (V + 1 + 1) #[.string s]).heap[V]? = some (.cells #[.slice (some ⟨b, 0, none⟩) 1 1, .int .i64 r] 141 (0, 0)) := by
    rw [setRow_other _ _ _ _ (by omega), setRow_other _ _ _ _ (by omega)]; exact h4a
  have c0 := (cell_blk h4a 0).1; have c1 := (cell_blk h4a 1).1
  have HV := Lib.hid hV
  have HX := Lib.hid (And.intro BL (And.intro h4b (And.intro h4c (And.intro h5 hA6))))
  clear hV BL h4a h4b h4c h5 hxb hlb hxq hlq hq5 hsz hA6
  go_upto_region 4 with fail
  obtain ⟨y, hy⟩ : ∃ y, (x.setRow (V + 1 + 1) #[.string ⟨#[]⟩]).setRow (V + 1 + 1) #[.string s] = y := ⟨_, rfl⟩
  obtain ⟨BL, h4b, h4c, h5, hA6⟩ := HX.out
  have hB6 : y.heap[V + 1]? = some (.cells #[.slice none 0 0, .int .i64 0] 141 (0, 0)) := by
    rw [← hy, setRow_other _ _ _ _ (by omega), setRow_other _ _ _ _ (by omega)]; exact h4b
  have hC6 : y.heap[V + 1 + 1]? = some (.cells #[.string s] 9 (0, 0)) := by rw [← hy]; exact setRow_at h5 _
  have BY : Below w.heap.size w y := by
    rw [← hy]; exact below_setRow (below_setRow BL (by have := HV.out; omega) _) (by have := HV.out; omega) _
  rw [hy] at hA6 ⊢
  have a0 := (cell_blk hA6 0).1; have a1 := (cell_blk hA6 1).1
  have e0 := (cell_blk hB6 0).1; have e1 := (cell_blk hB6 1).1
  have f0 := (cell_blk hA6 0).2; have f1 := (cell_blk hB6 0).2; have f2 := (cell_blk hB6 1).2
  have HY := Lib.hid (And.intro BY (And.intro hA6 (And.intro hB6 hC6)))
  clear hy c0 c1 HCP1 HCP2 HX BL h4b h4c h5 hA6 hB6 hC6 BY HMK
  go_wp2_with fail
  have hz := pair_set ((heap_far_one (x := y) (R := V) (o := 0) (show V + 1 ≠ V by omega) (.slice (some ⟨V + 1 + 1, 0, none⟩) 1 1)).trans HY.out.2.2.1) rfl (.slice (some ⟨V + 1 + 1, 0, none⟩) 1 1) (.int .i64 r)
  have g0 := (cell_blk hz 0).1; have g1 := (cell_blk hz 1).1
  have hV := HV.out
  refine bodyPost_ret (v := docV (some ⟨V + 1 + 1, 0, none⟩) 1 1 r) (by simp [results, Try.results108, go_sem, g0, g1]) rfl ⟨V + 1 + 1, rfl, ?_, ?_⟩
  · rw [heap_far2 (by omega), heap_far_one (by omega)]; exact HY.out.2.2.2
  · exact ((HY.out.1.setCell (p := ⟨V, 0, none⟩) (by show _ ≤ V; omega) _).setCell (p := ⟨V + 1, 0, none⟩) (by show _ ≤ V + 1; omega) _).setCell (p := ⟨V + 1, 1, none⟩) (by show _ ≤ V + 1; omega) _
end Go.Proofs.Ytcbbhefgdonabaa.Bt
/- The document's arena of one page: Commit; the view of layer 5's statements. -/
namespace Go.Proofs.Ytcbbhefgdonabaa.Bt
open Go Go.RowKit Go.Shelf
set_option linter.unusedVariables false

def CmList (k : Nat) (s : ByteArray) (v : Value) (x : World) : Prop := (k = 0 ∧ v = .slice none 0 0) ∨ (k = 1 ∧ ∃ g cap, v = .slice (some ⟨g, 0, none⟩) 1 cap ∧ x.cell? ⟨g, 0, none⟩ = some (.string s))
/-- the call's own blocks: what came in, what goes out, the page's row -/
structure CmAt (V b : Nat) (r : Int) (w x : World) : Prop where
  v : x.heap[V]? = some (.cells #[.slice (some ⟨b, 0, none⟩) 1 1, .int .i64 r] 141 (0, 0))
  o : x.heap[V + 1]? = some (.cells #[.slice none 0 0, .int .i64 0] 141 (0, 0))
  b : x.heap[b]? = some (.cells #[.string ⟨#[]⟩] 9 (0, 0))
  bel : Below w.heap.size w x
theorem CmAt.below {V b : Nat} {r : Int} {w x y : World} (h : CmAt V b r w x) (hb : Below x.heap.size x y) : CmAt V b r w y :=
  ⟨pair_at hb h.v, pair_at hb h.o, (hb.block b (Array.getElem?_eq_some_iff.1 h.b).1).trans h.b, h.bel.trans (hb.mono h.bel.size)⟩
def CommitOne (w : World) (e : Ending) (w' : World) : Prop := ∃ b, e = .returned (.tuple #[docV (some ⟨b, 0, none⟩) 1 1 (-1), .int .i64 0]) ∧ Below w.heap.size w w'
set_option maxRecDepth 100000 in
set_option maxHeartbeats 2000000 in
theorem rcommit_one (b : Nat) (w : World) (hb : w.heap[b]? = some (.cells #[.string ⟨#[]⟩] 9 (0, 0))) :
    Calls Try.prog 96 #[docV (some ⟨b, 0, none⟩) 1 1 (-1), .int .i64 0, .int .i64 1] w (CommitOne w) := by
  obtain ⟨i0, hi, hz0, hz1, hz2⟩ := info_parts Try.infoString
  have HI := Lib.hid hi; have HZ0 := Lib.hid hz0; have HZ1 := Lib.hid hz1; have HZ2 := Lib.hid hz2
  clear hi hz0 hz1 hz2
  have HNS := Lib.hid fun x => noughts_any 4096 (by omega) x
  generalize strL (List.replicate 4096 0) = s at *
  obtain ⟨q1, q2⟩ := pairs_new w #[.slice (some ⟨b, 0, none⟩) 1 1, .int .i64 (-1)] #[.slice none 0 0, .int .i64 0] 141 141
  have HC0 : Hid (CmAt w.heap.size b (-1) w _) := Lib.hid ⟨q1, q2, ((below2 w _ _).block b (Array.getElem?_eq_some_iff.1 hb).1).trans hb, below2 w _ _⟩
  clear hb q1 q2
  go_enter Try.func96, Try.ntmps96
  go_wp2_with fail
  refine (rwrong_one b (-1) _ HC0.out.b).mono ?_
  rintro e w1 ⟨rfl, hb⟩
  have HC1 := Lib.hid (HC0.out.below hb)
  obtain ⟨V, hV⟩ : ∃ V, w.heap.size = V := ⟨_, rfl⟩
  rw [hV] at HC1 ⊢
  have HV := Lib.hid hV
  clear HC0 hb hV
  have c0 := (cell_blk HC1.out.v 0).1; have c1 := (cell_blk HC1.out.v 1).1
  go_wp2_with fail
  go_loopw [9, 10] (fun l v wr => ∃ k : Nat, k ≤ 1 ∧ v = .int .i64 (k : Int) ∧ CmList k s l wr ∧ CmAt V b (-1) w wr) (fun _ v _ => 1 - (intOf v).toNat)
  case atStart => exact ⟨0, by omega, rfl, .inl ⟨rfl, rfl⟩, HC1.out⟩
  case round =>
    obtain ⟨k, hk, rfl, hl, hc⟩ := hrel
    have HL := Lib.hid hl; have HC := Lib.hid hc
    clear hl hc HC1 c0 c1
    by_cases hlt : k < 1
    · obtain rfl : k = 0 := by omega
      obtain rfl : u9 = .slice none 0 0 := by
        rcases HL.out with ⟨_, h⟩ | ⟨h, _⟩
        · exact h
        · cases h
      clear HL
      go_wp2_with fail
      refine (HNS.out _).mono ?_
      rintro e w2 ⟨rfl, hb⟩
      have HC2 := Lib.hid (HC.out.below hb)
      clear HC hb
      go_wp2_with fail
      go_roundw
      case rel =>
        refine ⟨1, by omega, rfl, .inr ⟨rfl, _, _, rfl, ?_⟩, HC2.out.below ((below2 w2 _ _).drew)⟩
        have := (cell_blk (heap_old2 w2 (.cells #[.string s] 9) (.cells (#[.string s] ++ Builtin.zeroCells #[.string ⟨#[]⟩] ((Question.appendCap 1 0 9).cut (w2.tape w2.drawn (Question.appendCap 1 0 9)) - 1)) 9)) 0).1
        refine Eq.trans this ?_
        rw [Array.getElem?_append_left (show 0 < 1 by omega)]
        rfl
      case measure => exact (show (0 : Nat) < 1 by omega)
    · have hk1 : k = 1 := by omega
      obtain ⟨g, cap, rfl, hcell⟩ : ∃ g cap, u9 = .slice (some ⟨g, 0, none⟩) 1 cap ∧ wr.cell? ⟨g, 0, none⟩ = some (.string s) := by
        rcases HL.out with ⟨h, _⟩ | ⟨_, h⟩
        · omega
        · exact h
      have HCL := Lib.hid hcell
      have c0 := (cell_blk HC.out.v 0).1; have c1 := (cell_blk HC.out.v 1).1
      have e0 := (cell_blk HC.out.o 0).1; have e1 := (cell_blk HC.out.o 1).1
      clear HL hcell
      go_wp2_with fail
      refine (rwith_one b g cap (-1) s _ HC.out.b HCL.out).mono ?_
      rintro e w2 ⟨b2, rfl, hb2, hb⟩
      have HC2 := Lib.hid (HC.out.below hb)
      clear hb hb2 HCL HC c0 c1 e0 e1
      have f1 := (cell_blk HC2.out.o 0).2; have f2 := (cell_blk HC2.out.o 1).2
      have e0 := (cell_blk HC2.out.o 0).1; have e1 := (cell_blk HC2.out.o 1).1
      go_wp2_with fail
      have hz := pair_set HC2.out.o rfl (.slice (some ⟨b2, 0, none⟩) 1 1) (.int .i64 (-1))
      have g0 := (cell_blk hz 0).1; have g1 := (cell_blk hz 1).1
      have hV := HV.out
      exact bodyPost_ret (v := .tuple #[docV (some ⟨b2, 0, none⟩) 1 1 (-1), .int .i64 0]) (by simp [results, Try.results96, go_sem, g0, g1]) rfl ⟨b2, rfl, (HC2.out.bel.setCell (p := ⟨V + 1, 0, none⟩) (by show _ ≤ V + 1; omega) _).setCell (p := ⟨V + 1, 1, none⟩) (by show _ ≤ V + 1; omega) _⟩
end Go.Proofs.Ytcbbhefgdonabaa.Bt
/- The page and the view of layer 5's statements. -/
namespace Go.Proofs.Ytcbbhefgdonabaa.Bt
open Go Go.RowKit Go.Shelf
set_option linter.unusedVariables false

/-- an arena, and what lay ahead of a world w0 -/
structure OB (A : Nat) (s : ASt) (w0 x : World) : Prop where
  o : On A s x
  b : Base A w0 x
theorem OB.below {A : Nat} {s : ASt} {w0 x y : World} (h : OB A s w0 x) (hb : Below x.heap.size x y) : OB A s w0 y := ⟨h.o.below hb, h.b.below h.o hb⟩
theorem OB.went {A : Nat} {s s' : ASt} {w0 x y : World} (h : OB A s w0 x) (ho : On A s' y) (hg : Went A x y) : OB A s' w0 y := ⟨ho, h.b.went hg⟩
theorem OB.set {A R : Nat} {s : ASt} {w0 x : World} (h : OB A s w0 x) (hm : Mine A R x) (hR : w0.heap.size ≤ R) (o : Nat) (v : Value) : OB A s w0 (x.setCell ⟨R, o, none⟩ v) := ⟨h.o.set hm o v, h.b.set h.o hm hR o v⟩
theorem ob_sets {A : Nat} {s : ASt} {w0 : World} (l : List (Nat × Nat × Value)) : ∀ x, OB A s w0 x → (∀ e ∈ l, Mine A e.1 x ∧ w0.heap.size ≤ e.1) → OB A s w0 (l.foldl (fun x e => x.setCell ⟨e.1, e.2.1, none⟩ e.2.2) x) := by
  induction l with
  | nil => intro x h _; exact h
  | cons a l ih =>
    intro x h hm
    have ha := hm a (List.mem_cons_self ..)
    exact ih _ (h.set ha.1 ha.2 _ _) fun e he => ⟨Mine.set h.o ha.1 (hm e (List.mem_cons_of_mem _ he)).1 _ _, (hm e (List.mem_cons_of_mem _ he)).2⟩
abbrev dvV (n : Nat) : Value := .agg #[.int .i64 10, .int .i64 (n : Int)]
def PageP (n : Nat) (w : World) (e : Ending) (w' : World) : Prop :=
  ∃ A b, e = .returned (.tuple #[.pointer (some ⟨A, 0, none⟩), vwV A 10 n, docV (some ⟨b, 0, none⟩) 1 1 (-1), dvV n, .bool true]) ∧ OB A (fullS 1 (fun _ => 0)) w w'
theorem three_blocks (w : World) (a b c : Array Value) (ta tb tc : TypeId) : ((((w.alloc (.cells a ta)).alloc (.cells b tb)).alloc (.cells c tc)).heap.size = w.heap.size + 3) ∧ Below w.heap.size w (((w.alloc (.cells a ta)).alloc (.cells b tb)).alloc (.cells c tc)) :=
  ⟨by simp, (below2 w _ _).alloc (by simp; omega) _⟩
/-- the blocks of what goes out -/
structure Outs (R : Nat) (x : World) : Prop where
  a : x.heap[R]? = some (.cells #[.pointer none, .int .i64 0, .int .i64 0] 27 (0, 0))
  b : x.heap[R + 1]? = some (.cells #[.slice none 0 0, .int .i64 0] 141 (0, 0))
  c : x.heap[R + 1 + 1]? = some (.cells #[.int .i64 0, .int .i64 0] 143 (0, 0))
theorem blk_at {x y : World} {B : Nat} {o : Obj} (hb : Below x.heap.size x y) (h : x.heap[B]? = some o) : y.heap[B]? = some o := (hb.block B (Array.getElem?_eq_some_iff.1 h).1).trans h
theorem Outs.below {R : Nat} {x y : World} (h : Outs R x) (hb : Below x.heap.size x y) : Outs R y := ⟨blk_at hb h.a, blk_at hb h.b, blk_at hb h.c⟩
theorem heap_far3 {x : World} {B R : Nat} (hne : B ≠ R) (u v z : Value) : (((x.setCell ⟨R, 0, none⟩ u).setCell ⟨R, 1, none⟩ v).setCell ⟨R, 2, none⟩ z).heap[B]? = x.heap[B]? :=
  (Below.heap_setCell _ ⟨R, 2, none⟩ _ _ hne).trans (heap_far2 hne u v)
/-- all that the statement's page holds on its way: the three blocks that go out, the document's arena's variable -/
structure Pg (A R D : Nat) (p : Option Addr) (s : ASt) (w x : World) : Prop where
  o : OB A s w x
  u : Outs R x
  m0 : Mine A R x
  m1 : Mine A (R + 1) x
  m2 : Mine A (R + 1 + 1) x
  d : x.heap[D]? = some (.cells #[.slice p 1 1, .int .i64 (-1)] 141 (0, 0))
  md : Mine A D x
  rd : R + 1 + 1 < D
  wr : w.heap.size ≤ R
theorem Pg.went {A R D : Nat} {p : Option Addr} {s s' : ASt} {w x y : World} (h : Pg A R D p s w x) (ho : On A s' y) (hg : Went A x y) : Pg A R D p s' w y :=
  { h with o := h.o.went ho hg, u := ⟨h.m0.at hg h.u.a, h.m1.at hg h.u.b, h.m2.at hg h.u.c⟩, m0 := h.m0.went hg, m1 := h.m1.went hg, m2 := h.m2.went hg, d := h.md.at hg h.d, md := h.md.went hg }
theorem Pg.below {A R D : Nat} {p : Option Addr} {s : ASt} {w x y : World} (h : Pg A R D p s w x) (hb : Below x.heap.size x y) : Pg A R D p s w y := h.went (h.o.o.below hb) (Went.of_below h.o.o hb)
theorem Pg.setD {A R D : Nat} {p q : Option Addr} {s : ASt} {w x : World} (h : Pg A R D p s w x) : Pg A R D q s w ((x.setCell ⟨D, 0, none⟩ (.slice q 1 1)).setCell ⟨D, 1, none⟩ (.int .i64 (-1))) := by
  have hr := h.rd; have hw := h.wr
  have o1 := h.o.set h.md (by omega) 0 (.slice q 1 1)
  have md1 := Mine.set h.o.o h.md h.md 0 (.slice q 1 1)
  exact { h with
    o := o1.set md1 (by omega) 1 _
    u := ⟨(heap_far2 (by omega) _ _).trans h.u.a, (heap_far2 (by omega) _ _).trans h.u.b, (heap_far2 (by omega) _ _).trans h.u.c⟩
    m0 := Mine.set o1.o md1 (Mine.set h.o.o h.md h.m0 _ _) _ _
    m1 := Mine.set o1.o md1 (Mine.set h.o.o h.md h.m1 _ _) _ _
    m2 := Mine.set o1.o md1 (Mine.set h.o.o h.md h.m2 _ _) _ _
    d := pair_set h.d rfl _ _
    md := Mine.set o1.o md1 md1 _ _ }
set_option maxRecDepth 100000 in
set_option maxHeartbeats 4000000 in
theorem page_any (n : Nat) (hn : n ≤ 4000) (w : World) : Calls Try.prog 80 #[.int .i64 (n : Int)] w (PageP n w) := by
  have L1 : Hid (lenN 1 = 1) := Lib.hid (by decide)
  have E1 : Hid (commitE (newS 1) 0 1 = 0) := Lib.hid (by decide)
  have S1 : Hid (commitS (newS 1) 0 1 = fullS 1 (fun _ => 0)) := Lib.hid (full_new 1 1 (by decide) (by decide) (by decide))
  have T1 : Hid (thereE (fullS 1 fun _ => 0).L (fullS 1 fun _ => 0).es 10 n = 0) := Lib.hid (by
    show thereE 1 [0, 1] 10 n = 0
    rw [thereE_full (by omega) (by omega), if_pos (by omega)])
  have HV : Hid (∀ pu a k, ofV pu a k 0 = .agg #[.pointer pu, .int .i64 a, .int .i64 k]) := Lib.hid fun pu a k => by unfold ofV; rw [if_pos rfl]
  obtain ⟨hsz, hbl⟩ := three_blocks w #[.pointer none, .int .i64 0, .int .i64 0] #[.slice none 0 0, .int .i64 0] #[.int .i64 0, .int .i64 0] 27 141 143
  obtain ⟨q1, q2, q3⟩ := three_new w #[.pointer none, .int .i64 0, .int .i64 0] #[.slice none 0 0, .int .i64 0] #[.int .i64 0, .int .i64 0] 27 141 143
  have HO0 : Hid (Outs w.heap.size _) := Lib.hid ⟨q1, q2, q3⟩
  have HB0 := Lib.hid hbl
  have HS0 := Lib.hid hsz
  clear q1 q2 q3 hsz hbl
  go_enter Try.func80, Try.ntmps80
  go_wp2_with fail
  refine (on_new 1 _).mono ?_
  rintro e w1 ⟨A, rfl, hA, hx, hb, hm⟩
  rw [L1.out] at hx
  have HX1 : Hid (OB A (newS 1) w w1) := Lib.hid ⟨hx, hb.rebase HB0.out⟩
  have HM1 : Hid (∀ j, j < 3 → Mine A (w.heap.size + j) w1) := Lib.hid fun j hj => hm _ (by rw [HS0.out]; omega)
  have HO1 := Lib.hid (HO0.out.below hb.bel)
  clear hx hb hm HO0 HB0 hA
  go_wp2_with fail
  refine (rnew_one _).mono ?_
  rintro e w2 ⟨b, rfl, hb2, hb⟩
  have HX2 := Lib.hid (HX1.out.below hb)
  have HM2 : Hid (∀ j, j < 3 → Mine A (w.heap.size + j) w2) := Lib.hid fun j hj => (HM1.out j hj).went (Went.of_below HX1.out.o hb)
  have HO2 := Lib.hid (HO1.out.below hb)
  have HB2 := Lib.hid hb2
  clear hb hb2 HX1 HM1 HO1
  go_wp2_with fail
  have hD := heap_new w2 (.cells #[.slice (some ⟨b, 0, none⟩) 1 1, .int .i64 (-1)] 141)
  have hmD := Mine.new HX2.out.o (.cells #[.slice (some ⟨b, 0, none⟩) 1 1, .int .i64 (-1)] 141)
  have bD := bel1 w2 (.cells #[.slice (some ⟨b, 0, none⟩) 1 1, .int .i64 (-1)] 141)
  have gD := Went.of_below HX2.out.o bD
  have HP2 : Hid (Pg A w.heap.size w2.heap.size (some ⟨b, 0, none⟩) (newS 1) w _) := Lib.hid
    { o := HX2.out.below bD, u := HO2.out.below bD, m0 := (HM2.out 0 (by omega)).went gD, m1 := (HM2.out 1 (by omega)).went gD, m2 := (HM2.out 2 (by omega)).went gD, d := hD, md := hmD, rd := (HM2.out 2 (by omega)).lt, wr := Nat.le_refl _ }
  have HB3 := Lib.hid (blk_at bD HB2.out)
  clear hD hmD bD gD HX2 HM2 HO2 HB2
  refine (on_commit HP2.out.o.o 0 1 (by omega)).mono ?_
  rintro e w3 ⟨rfl, hx, hg⟩
  rw [E1.out]; rw [S1.out] at hx
  have HP3 := Lib.hid (HP2.out.went hx hg)
  have HB4 := Lib.hid (hg.keep HP2.out.o.o HB3.out (by decide) (by decide) (by decide))
  clear hx hg HP2 HB3
  have c0 := (cell_blk HP3.out.d 0).1; have c1 := (cell_blk HP3.out.d 1).1
  go_wp2_with fail
  refine (rcommit_one b _ HB4.out).mono ?_
  rintro e w4 ⟨b2, rfl, hb⟩
  have HP4 := Lib.hid (HP3.out.below hb)
  clear hb c0 c1 HP3 HB4
  have c0 := (cell_blk HP4.out.d 0).1; have c1 := (cell_blk HP4.out.d 1).1; have f0 := (cell_blk HP4.out.d 0).2; have f1 := (cell_blk HP4.out.d 1).2
  go_wp2_with fail
  have HP5 := Lib.hid (HP4.out.setD (q := some ⟨b2, 0, none⟩))
  clear c0 c1 f0 f1 HP4
  refine (on_of HP5.out.o.o 10 n (by omega)).mono ?_
  rintro e w5 ⟨rfl, hb⟩
  rw [T1.out, HV.out]
  have HP6 := Lib.hid (HP5.out.below hb)
  clear hb HP5
  go_upto_region 5 with fail
  have hV := heap_new w5 (.cells #[.pointer (some ⟨A, 0, none⟩), .int .i64 10, .int .i64 (n : Int)] 27)
  have hDV : w2.heap.size < w5.heap.size := HP6.out.md.lt
  have HP7 := Lib.hid (HP6.out.below (bel1 w5 (.cells #[.pointer (some ⟨A, 0, none⟩), .int .i64 10, .int .i64 (n : Int)] 27)))
  obtain ⟨x, hx⟩ : ∃ x, w5.alloc (.cells #[.pointer (some ⟨A, 0, none⟩), .int .i64 10, .int .i64 (n : Int)] 27) = x := ⟨_, rfl⟩
  obtain ⟨V, hVV⟩ : ∃ V, w5.heap.size = V := ⟨_, rfl⟩
  obtain ⟨D, hDD⟩ : ∃ V, w2.heap.size = V := ⟨_, rfl⟩
  obtain ⟨R, hRR⟩ : ∃ V, w.heap.size = V := ⟨_, rfl⟩
  rw [hx] at HP7 hV ⊢
  rw [hVV] at hV hDV ⊢
  rw [hDD] at HP7 hDV ⊢
  rw [hRR] at HP7 ⊢
  have HR := Lib.hid hRR
  clear hx hVV hDD hRR HP6
  have u0 := (cell_blk hV 0).1; have u1 := (cell_blk hV 1).1; have u2 := (cell_blk hV 2).1
  have d0 := (cell_blk HP7.out.d 0).1; have d1 := (cell_blk HP7.out.d 1).1
  have a0 := (cell_blk HP7.out.u.a 0).1; have a1 := (cell_blk HP7.out.u.a 1).1; have a2 := (cell_blk HP7.out.u.a 2).1
  have b0 := (cell_blk HP7.out.u.b 0).1; have b1 := (cell_blk HP7.out.u.b 1).1
  have c0 := (cell_blk HP7.out.u.c 0).1; have c1 := (cell_blk HP7.out.u.c 1).1
  have fa0 := (cell_blk HP7.out.u.a 0).2; have fa1 := (cell_blk HP7.out.u.a 1).2; have fa2 := (cell_blk HP7.out.u.a 2).2
  have fb0 := (cell_blk HP7.out.u.b 0).2; have fb1 := (cell_blk HP7.out.u.b 1).2
  have fc0 := (cell_blk HP7.out.u.c 0).2; have fc1 := (cell_blk HP7.out.u.c 1).2
  have hrd := HP7.out.rd
  have n1 : ¬ D = R := by omega
  have n2 : ¬ D = R + 1 := by omega
  have n3 : ¬ D = R + 1 + 1 := by omega
  have n4 : ¬ V = R := by omega
  have n5 : ¬ V = R + 1 := by omega
  have n6 : ¬ V = R + 1 + 1 := by omega
  clear hrd hDV hV
  go_region
  have hR := HR.out
  have hob := ob_sets [(R, 0, .pointer (some ⟨A, 0, none⟩)), (R, 1, .int .i64 10), (R, 2, .int .i64 (n : Int)), (R + 1, 0, .slice (some ⟨b2, 0, none⟩) 1 1), (R + 1, 1, .int .i64 (-1)), (R + 1 + 1, 0, .int .i64 10), (R + 1 + 1, 1, .int .i64 (n : Int))] x HP7.out.o (by
    intro e he
    simp only [List.mem_cons, List.not_mem_nil, or_false] at he
    rcases he with rfl | rfl | rfl | rfl | rfl | rfl | rfl
    · exact ⟨HP7.out.m0, by show _ ≤ R; omega⟩
    · exact ⟨HP7.out.m0, by show _ ≤ R; omega⟩
    · exact ⟨HP7.out.m0, by show _ ≤ R; omega⟩
    · exact ⟨HP7.out.m1, by show _ ≤ R + 1; omega⟩
    · exact ⟨HP7.out.m1, by show _ ≤ R + 1; omega⟩
    · exact ⟨HP7.out.m2, by show _ ≤ R + 1 + 1; omega⟩
    · exact ⟨HP7.out.m2, by show _ ≤ R + 1 + 1; omega⟩)
  have HOB := Lib.hid (hob.below (Below.refl _ _).drew)
  have y1 := three_set HP7.out.u.a rfl (.pointer (some ⟨A, 0, none⟩)) (.int .i64 10) (.int .i64 (n : Int))
  have y2 := (heap_far3 (x := x) (B := R + 1) (R := R) (by omega) (.pointer (some ⟨A, 0, none⟩)) (.int .i64 10) (.int .i64 (n : Int))).trans HP7.out.u.b
  have y3 := (heap_far3 (x := x) (B := R + 1 + 1) (R := R) (by omega) (.pointer (some ⟨A, 0, none⟩)) (.int .i64 10) (.int .i64 (n : Int))).trans HP7.out.u.c
  obtain ⟨x1, hx1⟩ : ∃ x1, ((x.setCell ⟨R, 0, none⟩ (.pointer (some ⟨A, 0, none⟩))).setCell ⟨R, 1, none⟩ (.int .i64 10)).setCell ⟨R, 2, none⟩ (.int .i64 (n : Int)) = x1 := ⟨_, rfl⟩
  rw [hx1] at y1 y2 y3
  have z1 := (heap_far2 (x := x1) (B := R) (R := R + 1) (by omega) (.slice (some ⟨b2, 0, none⟩) 1 1) (.int .i64 (-1))).trans y1
  have z2 := pair_set y2 rfl (.slice (some ⟨b2, 0, none⟩) 1 1) (.int .i64 (-1))
  have z3 := (heap_far2 (x := x1) (B := R + 1 + 1) (R := R + 1) (by omega) (.slice (some ⟨b2, 0, none⟩) 1 1) (.int .i64 (-1))).trans y3
  obtain ⟨x2, hx2⟩ : ∃ x2, (x1.setCell ⟨R + 1, 0, none⟩ (.slice (some ⟨b2, 0, none⟩) 1 1)).setCell ⟨R + 1, 1, none⟩ (.int .i64 (-1)) = x2 := ⟨_, rfl⟩
  rw [hx2] at z1 z2 z3
  have v1 := (heap_far2 (x := x2) (B := R) (R := R + 1 + 1) (by omega) (.int .i64 10) (.int .i64 (n : Int))).trans z1
  have v2 := (heap_far2 (x := x2) (B := R + 1) (R := R + 1 + 1) (by omega) (.int .i64 10) (.int .i64 (n : Int))).trans z2
  have v3 := pair_set z3 rfl (.int .i64 10) (.int .i64 (n : Int))
  have HX12 := Lib.hid (And.intro hx1 hx2)
  have g0 := (cell_blk v1 0).1; have g1 := (cell_blk v1 1).1; have g2 := (cell_blk v1 2).1; have g3 := (cell_blk v2 0).1; have g4 := (cell_blk v2 1).1; have g5 := (cell_blk v3 0).1; have g6 := (cell_blk v3 1).1
  clear u0 u1 u2 d0 d1 a0 a1 a2 b0 b1 c0 c1 fa0 fa1 fa2 fb0 fb1 fc0 fc1 hob y1 y2 y3 z1 z2 z3 v1 v2 v3
  rw [hx1, hx2]
  clear hx1 hx2
  go_wp2_with fail
  exact bodyPost_ret (v := .tuple #[.pointer (some ⟨A, 0, none⟩), vwV A 10 n, docV (some ⟨b2, 0, none⟩) 1 1 (-1), dvV n, .bool true]) (by simp [results, Try.results80, go_sem, g0, g1, g2, g3, g4, g5, g6]) rfl ⟨A, b2, rfl, by have := HOB.out; rw [← HX12.out.2, ← HX12.out.1]; exact this⟩
end Go.Proofs.Ytcbbhefgdonabaa.Bt
