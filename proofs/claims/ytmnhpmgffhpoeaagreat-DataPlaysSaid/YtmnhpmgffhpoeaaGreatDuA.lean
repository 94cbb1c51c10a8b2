/- Several texts in one: FdB; FdC; FdD; ArDec; ArNumM; ArKeepM; RfA. -/
import Derived.Test.YtmnhpmgffhpoeaaGreatOnB
import Derived.Laws.Rows
import Derived.Deep.DeepCutAuto
import Derived.RegionTactic
import Derived.Deep.MidRow
import Derived.Test.YtmnhpmgffhpoeaaGreatArPut
import Derived.Test.YtmnhpmgffhpoeaaGreatArFull
import Derived.Laws.CopyRow
/- The contracts of a record's small functions. -/
namespace Go.Proofs.YtmnhpmgffhpoeaaGreat.Bt
open Go Go.RowKit Go.Shelf
set_option linter.unusedVariables false

/-- a record's cells: how many fields, where each begins -/
def recC (n : Nat) (f : Nat → Nat) : Array Value := ((.int .i64 (n : Int)) :: (List.range 33).map fun i => Value.int .i64 ((f i : Nat) : Int)).toArray
theorem recC_size (n : Nat) (f : Nat → Nat) : (recC n f).size = 34 := by simp [recC]
theorem recC_0 (n : Nat) (f : Nat → Nat) : (recC n f)[0]? = some (.int .i64 (n : Int)) := by simp [recC]
theorem recC_at (n : Nat) (f : Nat → Nat) (i : Nat) (h : i < 33) : (recC n f)[1 + i]? = some (.int .i64 ((f i : Nat) : Int)) := by
  rw [Nat.add_comm]; simp [recC, h]
/-- a record's variable -/
def VR (B n : Nat) (f : Nat → Nat) (x : World) : Prop := x.heap[B]? = some (.cells (recC n f) 103 (0, 0))
theorem VR.below {B n : Nat} {f : Nat → Nat} {x y : World} (h : VR B n f x) (hb : Below x.heap.size x y) : VR B n f y := (hb.block _ (Array.getElem?_eq_some_iff.1 h).1).trans h
theorem VR.n {B n : Nat} {f : Nat → Nat} {x : World} (h : VR B n f x) : x.cell? ⟨B, 0, none⟩ = some (.int .i64 (n : Int)) := (cell_blk h 0).1.trans (recC_0 n f)
theorem VR.f {B n : Nat} {f : Nat → Nat} {x : World} (h : VR B n f x) (i : Nat) (hi : i < 33) : x.cell? ⟨B, 1 + i, none⟩ = some (.int .i64 ((f i : Nat) : Int)) := (cell_blk h _).1.trans (recC_at n f i hi)
def hasF (n : Nat) (i : Int) : Bool := decide (0 ≤ i ∧ i < n)
theorem fhas_any (n : Nat) (f : Nat → Nat) (i : Int) (w : World) : Calls Tryz.prog 73 #[.agg (recC n f), .int .i64 i] w (Gives (.bool (hasF n i)) w) := by
  have hv : VR w.heap.size n f (w.alloc (.cells (recC n f) 103)) := heap_new _ _
  have c0 := hv.n
  clear hv
  by_cases h0 : 0 ≤ i
  · by_cases h1 : i < n
    · have HB : Hid (hasF n i = true) := Lib.hid (decide_eq_true ⟨h0, h1⟩)
      go_enter Tryz.func73, Tryz.ntmps73
      go_wp2_with fail
      go_ret
      exact ⟨by rw [HB.out]; rfl, bel1 _ _⟩
    · have HB : Hid (hasF n i = false) := Lib.hid (decide_eq_false fun h => h1 h.2)
      go_enter Tryz.func73, Tryz.ntmps73
      go_wp2_with fail
      go_ret
      exact ⟨by rw [HB.out]; rfl, bel1 _ _⟩
  · have HB : Hid (hasF n i = false) := Lib.hid (decide_eq_false fun h => h0 h.1)
    go_enter Tryz.func73, Tryz.ntmps73
    go_wp2_with fail
    go_ret
    exact ⟨by rw [HB.out]; rfl, bel1 _ _⟩
def atF (n : Nat) (f : Nat → Nat) (i : Int) : Int := if hasF n i then ((f i.toNat : Nat) : Int) else 0
theorem Tryz.infoRec : (Tryz.prog.info? 103).map (·.size) = some 34 := by kernel_rfl
theorem fat_any (n : Nat) (f : Nat → Nat) (hn : n ≤ 32) (i : Int) (w : World) : Calls Tryz.prog 59 #[.agg (recC n f), .int .i64 i] w (Gives (.int .i64 (atF n f i)) w) := by
  have hv : VR w.heap.size n f (w.alloc (.cells (recC n f) 103)) := heap_new _ _
  have HV := Lib.hid hv
  have HZ : Hid ((Tryz.prog.info? 103).map (·.size) = some (recC n f).size) := Lib.hid (by rw [recC_size]; exact Tryz.infoRec)
  cases hh : hasF n i with
  | false =>
    have HH := Lib.hid hh
    have HA : Hid (atF n f i = 0) := Lib.hid (by unfold atF; rw [hh]; rfl)
    clear hh hv
    go_enter Tryz.func59, Tryz.ntmps59
    go_wp2_with (refine wpList_load_row rfl 103 (.tmp 2) rfl w.heap.size rfl 103 (recC n f) (0, 0) _ HV.out Tryz.underlying103 rfl HZ.out ?_)
    refine (fhas_any n f i _).mono ?_
    rintro e w1 ⟨rfl, hb⟩
    rw [HH.out]
    have B1 := Lib.hid ((bel1 w (.cells (recC n f) 103)).trans (hb.mono (by simp)))
    clear hb
    go_wp2_with fail
    go_ret
    exact ⟨by rw [HA.out]; rfl, B1.out⟩
  | true =>
    have hin : 0 ≤ i ∧ i < n := of_decide_eq_true hh
    obtain ⟨k, rfl⟩ : ∃ k : Nat, i = k := ⟨i.toNat, by omega⟩
    have hk : k < n := by omega
    have HH := Lib.hid hh
    have HA : Hid (atF n f k = ((f k : Nat) : Int)) := Lib.hid (by unfold atF; rw [hh, if_pos rfl, Int.toNat_natCast])
    clear hh hv hin
    go_enter Tryz.func59, Tryz.ntmps59
    go_wp2_with (refine wpList_load_row rfl 103 (.tmp 2) rfl w.heap.size rfl 103 (recC n f) (0, 0) _ HV.out Tryz.underlying103 rfl HZ.out ?_)
    refine (fhas_any n f k _).mono ?_
    rintro e w1 ⟨rfl, hb⟩
    rw [HH.out]
    have B1 := Lib.hid ((bel1 w (.cells (recC n f) 103)).trans (hb.mono (by simp)))
    have c1 := (VR.below HV.out hb).f k (by omega)
    clear hb
    go_wp2_with fail
    go_ret
    exact ⟨by rw [HA.out]; rfl, B1.out⟩
/-- how many bytes a field has -/
theorem fwidth_any (n : Nat) (f : Nat → Nat) (hn : n ≤ 32) (k : Nat) (hk : k < n) (hm : f k ≤ f (k + 1)) (hs : f (k + 1) ≤ 1000) (w : World) :
    Calls Tryz.prog 75 #[.agg (recC n f), .int .i64 (k : Int)] w (Gives (.int .i64 ((f (k + 1) - f k : Nat) : Int)) w) := by
  have hv : VR w.heap.size n f (w.alloc (.cells (recC n f) 103)) := heap_new _ _
  have c0 := hv.f k (by omega)
  have c1 := hv.f (k + 1) (by omega)
  have HR : Hid (((f (k + 1) - f k : Nat) : Int) = (f (k + 1) : Int) - f k) := Lib.hid (by omega)
  have e1 : ((k : Int) + 1).toNat = k + 1 := by omega
  clear hv
  go_enter Tryz.func75, Tryz.ntmps75
  go_wp2_with fail
  go_region
  go_wp2_with fail
  go_ret
  exact ⟨by rw [HR.out]; rfl, (bel1 _ _).drew⟩
/-- has a number more bytes than a field? -/
def longB (x : Int) (W : Nat) : Bool := x / 2 ^ (8 * W) != 0
theorem flong_any (n : Nat) (f : Nat → Nat) (hn : n ≤ 32) (k : Nat) (hk : k < n) (hm : f k ≤ f (k + 1)) (hs : f (k + 1) ≤ 1000) (hW : f (k + 1) - f k ≤ 8) (x : Int) (hx : 0 ≤ x) (hx2 : x < 18446744073709551616) (w : World) :
    Calls Tryz.prog 74 #[.agg (recC n f), .int .i64 (k : Int), .int .u64 x] w (Gives (.bool (longB x (f (k + 1) - f k))) w) := by
  have hv : VR w.heap.size n f (w.alloc (.cells (recC n f) 103)) := heap_new _ _
  have HV := Lib.hid hv
  have HZ : Hid ((Tryz.prog.info? 103).map (·.size) = some (recC n f).size) := Lib.hid (by rw [recC_size]; exact Tryz.infoRec)
  clear hv
  go_enter Tryz.func74, Tryz.ntmps74
  go_wp2_with (refine wpList_load_row rfl 103 (.tmp 3) rfl w.heap.size rfl 103 (recC n f) (0, 0) _ HV.out Tryz.underlying103 rfl HZ.out ?_)
  refine (fwidth_any n f hn k hk hm hs _).mono ?_
  rintro e w1 ⟨rfl, hb⟩
  have B1 := Lib.hid ((bel1 w (.cells (recC n f) 103)).trans (hb.mono (by simp)))
  clear hb
  generalize f (k + 1) - f k = W at *
  go_wp2_with fail
  go_ret
  exact ⟨rfl, B1.out⟩
end Go.Proofs.YtmnhpmgffhpoeaaGreat.Bt
/- The contract of a record's Set. -/
namespace Go.Proofs.YtmnhpmgffhpoeaaGreat.Bt
open Go Go.RowKit Go.Shelf
set_option linter.unusedVariables false
set_option linter.unusedSimpArgs false

/-- a record's and a view's variables -/
def RV (B V n : Nat) (f : Nat → Nat) (A va vs : Nat) (x : World) : Prop := VR B n f x ∧ VC V (some ⟨A, 0, none⟩) va vs x
theorem RV.below {B V n : Nat} {f : Nat → Nat} {A va vs : Nat} {x y : World} (h : RV B V n f A va vs x) (hb : Below x.heap.size x y) : RV B V n f A va vs y := ⟨h.1.below hb, h.2.below hb⟩
theorem RV.went {B V n : Nat} {f : Nat → Nat} {A va vs : Nat} {x y : World} {s : ASt} (h : RV B V n f A va vs x) (ho : On A s x) (hg : Went A x y) : RV B V n f A va vs y :=
  ⟨hg.keep ho h.1 (by decide) (by decide) (by decide), hg.keep ho h.2 (by decide) (by decide) (by decide)⟩
theorem VR.range {B n : Nat} {f : Nat → Nat} {x : World} (h : VR B n f x) : x.rangeAt B 0 (recC n f).toList := fun j v hv => by
  rw [(cell_blk h _).1, Nat.zero_add]; simpa using hv
theorem RV.all {B V n : Nat} {f : Nat → Nat} {A va vs : Nat} {x : World} (h : RV B V n f A va vs x) (k : Nat) (hk : k < 33) :
    x.cell? ⟨V, 0, none⟩ = some (.pointer (some ⟨A, 0, none⟩)) ∧ x.cell? ⟨V, 1, none⟩ = some (.int .i64 (va : Int)) ∧ x.cell? ⟨V, 2, none⟩ = some (.int .i64 (vs : Int)) ∧ x.cell? ⟨B, 1 + k, none⟩ = some (.int .i64 ((f k : Nat) : Int)) ∧ x.rangeAt B 0 (recC n f).toList ∧ RV B V n f A va vs x :=
  ⟨(cell_blk h.2 0).1, (cell_blk h.2 1).1, (cell_blk h.2 2).1, h.1.f k hk, h.1.range, h⟩
theorem rv_new (n : Nat) (f : Nat → Nat) (A va vs : Nat) (w : World) :
    RV w.heap.size (w.heap.size + 1) n f A va vs ((w.alloc (.cells (recC n f) 103)).alloc (.cells #[.pointer (some ⟨A, 0, none⟩), .int .i64 (va : Int), .int .i64 (vs : Int)] 28)) := by
  obtain ⟨q1, q2⟩ := pairs_new w (recC n f) #[.pointer (some ⟨A, 0, none⟩), .int .i64 (va : Int), .int .i64 (vs : Int)] 103 28
  exact ⟨q1, q2⟩
section
variable {A : Nat} {s : ASt} {w : World}
theorem fset_arg (n : Nat) (f : Nat → Nat) (va vs : Nat) (i x : Int) (hh : hasF n i = false) :
    Calls Tryz.prog 60 #[.agg (recC n f), vwV A va vs, .int .i64 i, .int .u64 x] w (Gives (.int .i64 2) w) := by
  have HH := Lib.hid hh
  have HV := Lib.hid (rv_new n f A va vs w)
  have HZ : Hid ((Tryz.prog.info? 103).map (·.size) = some (recC n f).size) := Lib.hid (by rw [recC_size]; exact Tryz.infoRec)
  clear hh
  go_enter Tryz.func60, Tryz.ntmps60
  go_wp2_with (refine wpList_load_row rfl 103 (.tmp 4) rfl w.heap.size rfl 103 (recC n f) (0, 0) _ HV.out.1 Tryz.underlying103 rfl HZ.out ?_)
  refine (fhas_any n f i _).mono ?_
  rintro e w1 ⟨rfl, hb⟩
  rw [HH.out]
  have B1 := Lib.hid ((below2 w (.cells (recC n f) 103) (.cells #[.pointer (some ⟨A, 0, none⟩), .int .i64 (va : Int), .int .i64 (vs : Int)] 28)).trans (hb.mono (by simp; omega)))
  clear hb
  go_wp2_with fail
  go_ret
  exact ⟨rfl, B1.out⟩
theorem fset_long (n : Nat) (f : Nat → Nat) (va vs : Nat) (hn : n ≤ 32) (k : Nat) (hk : k < n) (hm : f k ≤ f (k + 1)) (hs : f (k + 1) ≤ 1000) (hW : f (k + 1) - f k ≤ 8) (x : Int) (hx : 0 ≤ x) (hx2 : x < 18446744073709551616) (hl : longB x (f (k + 1) - f k) = true) :
    Calls Tryz.prog 60 #[.agg (recC n f), vwV A va vs, .int .i64 (k : Int), .int .u64 x] w (Gives (.int .i64 16) w) := by
  have HH : Hid (hasF n k = true) := Lib.hid (decide_eq_true ⟨by omega, by omega⟩)
  have HL := Lib.hid hl
  have HV := Lib.hid (rv_new n f A va vs w)
  have HZ : Hid ((Tryz.prog.info? 103).map (·.size) = some (recC n f).size) := Lib.hid (by rw [recC_size]; exact Tryz.infoRec)
  clear hl
  go_enter Tryz.func60, Tryz.ntmps60
  go_wp2_with (refine wpList_load_row rfl 103 (.tmp 4) rfl w.heap.size rfl 103 (recC n f) (0, 0) _ HV.out.1 Tryz.underlying103 rfl HZ.out ?_)
  refine (fhas_any n f k _).mono ?_
  rintro e w1 ⟨rfl, hb⟩
  rw [HH.out]
  have B1 := Lib.hid ((below2 w (.cells (recC n f) 103) (.cells #[.pointer (some ⟨A, 0, none⟩), .int .i64 (va : Int), .int .i64 (vs : Int)] 28)).trans (hb.mono (by simp; omega)))
  have HV1 := Lib.hid (HV.out.below hb)
  clear hb HV
  go_wp2_with (refine wpList_load_row rfl 103 (.tmp 4) rfl w.heap.size rfl 103 (recC n f) (0, 0) _ HV1.out.1 Tryz.underlying103 rfl HZ.out ?_)
  refine (flong_any n f hn k hk hm hs hW x hx hx2 _).mono ?_
  rintro e w2 ⟨rfl, hb⟩
  rw [HL.out]
  have B2 := Lib.hid (B1.out.trans (hb.mono B1.out.size))
  clear hb
  go_wp2_with fail
  go_ret
  exact ⟨rfl, B2.out⟩
set_option maxHeartbeats 1000000 in
theorem fset_on (h : On A s w) (n : Nat) (f : Nat → Nat) (va vs : Nat) (h1 : va ≤ 4294967296) (h2 : vs ≤ 4294967296) (hn : n ≤ 32) (k : Nat) (hk : k < n) (hm : f k ≤ f (k + 1)) (hs : f (k + 1) ≤ 1000) (hW : f (k + 1) - f k ≤ 8) (x : Int) (hx : 0 ≤ x) (hx2 : x < 18446744073709551616) (hl : longB x (f (k + 1) - f k) = false) :
    Calls Tryz.prog 60 #[.agg (recC n f), vwV A va vs, .int .i64 (k : Int), .int .u64 x] w
      (Ret A (storeS s (addrV va vs (f k : Nat) (f (k + 1) - f k : Nat)) (f (k + 1) - f k : Nat) x) (.int .i64 (numE s.L s.es (addrV va vs (f k : Nat) (f (k + 1) - f k : Nat)) (f (k + 1) - f k : Nat))) w) := by
  have HO := Lib.hid h
  have HH : Hid (hasF n k = true) := Lib.hid (decide_eq_true ⟨by omega, by omega⟩)
  have HL := Lib.hid hl
  have HV := Lib.hid (rv_new n f A va vs w)
  have HZ : Hid ((Tryz.prog.info? 103).map (·.size) = some (recC n f).size) := Lib.hid (by rw [recC_size]; exact Tryz.infoRec)
  clear hl h
  go_enter Tryz.func60, Tryz.ntmps60
  go_wp2_with (refine wpList_load_row rfl 103 (.tmp 4) rfl w.heap.size rfl 103 (recC n f) (0, 0) _ HV.out.1 Tryz.underlying103 rfl HZ.out ?_)
  refine (fhas_any n f k _).mono ?_
  rintro e w1 ⟨rfl, hb⟩
  rw [HH.out]
  have B1 := Lib.hid ((below2 w (.cells (recC n f) 103) (.cells #[.pointer (some ⟨A, 0, none⟩), .int .i64 (va : Int), .int .i64 (vs : Int)] 28)).trans (hb.mono (by simp; omega)))
  have HV1 := Lib.hid (HV.out.below hb)
  clear hb HV
  go_wp2_with (refine wpList_load_row rfl 103 (.tmp 4) rfl w.heap.size rfl 103 (recC n f) (0, 0) _ HV1.out.1 Tryz.underlying103 rfl HZ.out ?_)
  refine (flong_any n f hn k hk hm hs hW x hx hx2 _).mono ?_
  rintro e w2 ⟨rfl, hb⟩
  rw [HL.out]
  have B2 := Lib.hid (B1.out.trans (hb.mono B1.out.size))
  have HV2 := HV1.out.below hb
  clear hb HV1 B1
  go_wp2_with fail
  obtain ⟨B, hB⟩ : ∃ B, w.heap.size = B := ⟨_, rfl⟩
  obtain ⟨V, hVV⟩ : ∃ V, B + 1 = V := ⟨_, rfl⟩
  rw [hB] at HV2 ⊢
  rw [hVV] at HV2 ⊢
  clear hB hVV
  have hu := Tryz.underlying103
  have hi : (Tryz.prog.info? 103).map (·.size) = some (recC n f).toList.length := by rw [Array.length_toList]; exact HZ.out
  have i0 : 0 ≤ (k : Int) := by omega
  have i1 : (k : Int) < 33 := by omega
  refine wp_region_held_drew (S := (fun x => x.cell? ⟨V, 0, none⟩ = some (.pointer (some ⟨A, 0, none⟩)) ∧ x.cell? ⟨V, 1, none⟩ = some (.int .i64 (va : Int)) ∧ x.cell? ⟨V, 2, none⟩ = some (.int .i64 (vs : Int)) ∧ x.cell? ⟨B, 1 + k, none⟩ = some (.int .i64 ((f k : Nat) : Int)) ∧ x.rangeAt B 0 (recC n f).toList ∧ RV B V n f A va vs x)) (by kernel_rfl) ((HV2.below (Below.refl _ _).drew).all k (by omega)) (fun hHeld => ?_)
  refine wpAnyH_take (i := 0) (v := .agg #[.pointer (some ⟨A, 0, none⟩), .int .i64 (va : Int), .int .i64 (vs : Int)]) rfl (by kernel_rfl) (by kernel_rfl) (by kernel_rfl) (fun _ _ _ h => h) (Or.inl ⟨by rfl, fun X hS => ?_⟩) hHeld ?_
  · obtain ⟨s1, s2, s3, s4, _, _⟩ := hS
    go_simp
  simp only [Act.put, List.getElem_toArray, List.getElem_cons_zero, List.getElem_cons_succ, List.setIfInBounds_toArray, List.set_cons_zero, List.set_cons_succ]
  refine wpAnyH_take (i := 1) (v := .int .i64 (k : Int)) rfl (by kernel_rfl) (by kernel_rfl) (by kernel_rfl) (fun _ _ _ h => h) (Or.inl ⟨by rfl, fun X hS => ?_⟩) hHeld ?_
  · obtain ⟨s1, s2, s3, s4, _, _⟩ := hS
    go_simp
  simp only [Act.put, List.getElem_toArray, List.getElem_cons_zero, List.getElem_cons_succ, List.setIfInBounds_toArray, List.set_cons_zero, List.set_cons_succ]
  refine wpAnyH_take (i := 2) (v := .pointer (some ⟨B, 1, none⟩)) rfl (by kernel_rfl) (by kernel_rfl) (by kernel_rfl) (fun _ _ _ h => h) (Or.inl ⟨by rfl, fun X hS => ?_⟩) hHeld ?_
  · obtain ⟨s1, s2, s3, s4, _, _⟩ := hS
    go_simp
  simp only [Act.put, List.getElem_toArray, List.getElem_cons_zero, List.getElem_cons_succ, List.setIfInBounds_toArray, List.set_cons_zero, List.set_cons_succ]
  refine wpAnyH_take (i := 3) (v := .pointer (some ⟨B, 1 + k, none⟩)) rfl (by kernel_rfl) (by kernel_rfl) (by kernel_rfl) (fun _ _ _ h => h) (Or.inl ⟨by rfl, fun X hS => ?_⟩) hHeld ?_
  · obtain ⟨s1, s2, s3, s4, _, _⟩ := hS
    go_simp
  simp only [Act.put, List.getElem_toArray, List.getElem_cons_zero, List.getElem_cons_succ, List.setIfInBounds_toArray, List.set_cons_zero, List.set_cons_succ]
  refine wpAnyH_take (i := 4) (v := .int .i64 ((f k : Nat) : Int)) rfl (by kernel_rfl) (by kernel_rfl) (by kernel_rfl) (fun _ _ _ h => h) (Or.inl ⟨by rfl, fun X hS => ?_⟩) hHeld ?_
  · obtain ⟨s1, s2, s3, s4, _, _⟩ := hS
    go_simp
  simp only [Act.put, List.getElem_toArray, List.getElem_cons_zero, List.getElem_cons_succ, List.setIfInBounds_toArray, List.set_cons_zero, List.set_cons_succ]
  refine wpAnyH_take (i := 5) (v := .agg (recC n f)) rfl (by kernel_rfl) (by kernel_rfl) (by kernel_rfl) (fun _ _ _ h => h) (yieldsIf_load_mid (by rfl) 103 (.tmp 4) rfl B 0 rfl (recC n f).toList _ (fun X hS => hS.2.2.2.2.1) hu rfl hi) hHeld ?_
  simp only [Act.put, List.getElem_toArray, List.getElem_cons_zero, List.getElem_cons_succ, List.setIfInBounds_toArray, List.set_cons_zero, List.set_cons_succ]
  refine wpAnyH_take (i := 6) (v := .int .i64 (k : Int)) rfl (by kernel_rfl) (by kernel_rfl) (by kernel_rfl) (fun _ _ _ h => h) (Or.inl ⟨by rfl, fun X hS => ?_⟩) hHeld ?_
  · obtain ⟨s1, s2, s3, s4, _, _⟩ := hS
    go_simp
  simp only [Act.put, List.getElem_toArray, List.getElem_cons_zero, List.getElem_cons_succ, List.setIfInBounds_toArray, List.set_cons_zero, List.set_cons_succ]
  refine wpAnyH_take (i := 8) (v := .int .u64 x) rfl (by kernel_rfl) (by kernel_rfl) (by kernel_rfl) (fun _ _ _ h => h) (Or.inl ⟨by rfl, fun X hS => ?_⟩) hHeld ?_
  · obtain ⟨s1, s2, s3, s4, _, _⟩ := hS
    go_simp
  simp only [Act.put, List.getElem_toArray, List.getElem_cons_zero, List.getElem_cons_succ, List.setIfInBounds_toArray, List.set_cons_zero, List.set_cons_succ]
  refine wpAnyH_ready (rs := [7]) (by kernel_rfl) (by simp) ?_
  refine AllReadyH.cons rfl (fun K hK => ?_) AllReadyH.nil
  go_simp
  refine (fwidth_any n f hn k hk hm hs _).mono ?_
  rintro e x1 ⟨rfl, hb1⟩
  have g1 := (HO.out.below (B2.out.trans ((Below.refl _ _).drew.mono B2.out.size))).below hb1
  have k1 := ((HV2.below (Below.refl _ _).drew).below hb1).all k (by omega)
  have W1 := (Went.of_below HO.out (B2.out.trans (((Below.refl _ _).drew.trans hb1).mono B2.out.size)))
  refine hK.out _ _ k1 (fun hHeld => ?_)
  clear hK
  try simp only [Act.put, List.getElem_toArray, List.getElem_cons_zero, List.getElem_cons_succ, List.setIfInBounds_toArray, List.set_cons_zero, List.set_cons_succ]
  refine wpAnyH_ready (rs := [9]) (by kernel_rfl) (by simp) ?_
  refine AllReadyH.cons rfl (fun K hK => ?_) AllReadyH.nil
  go_simp
  refine (on_store g1 va vs h1 h2 (f k : Nat) (f (k + 1) - f k : Nat) x (by omega) hx).mono ?_
  rintro e x2 ⟨rfl, g2, hw2⟩
  have k2 := (k1.2.2.2.2.2.went g1 hw2).all k (by omega)
  have W2 := W1.trans hw2
  refine hK.out _ _ k2 (fun hHeld => ?_)
  clear hK
  try simp only [Act.put, List.getElem_toArray, List.getElem_cons_zero, List.getElem_cons_succ, List.setIfInBounds_toArray, List.set_cons_zero, List.set_cons_succ]
  refine wpAnyH_take (i := 10) (v := .int .i64 (numE s.L s.es (addrV va vs (f k : Nat) (f (k + 1) - f k : Nat)) (f (k + 1) - f k : Nat))) rfl (by kernel_rfl) (by kernel_rfl) (by kernel_rfl) (fun _ _ _ h => h) (Or.inl ⟨by rfl, fun X hS => ?_⟩) hHeld ?_
  · obtain ⟨s1, s2, s3, s4, _, _⟩ := hS
    go_simp
  simp only [Act.put, List.getElem_toArray, List.getElem_cons_zero, List.getElem_cons_succ, List.setIfInBounds_toArray, List.set_cons_zero, List.set_cons_succ]
  refine wpAnyH_done (by kernel_rfl) ?_ _
  have HF := Lib.hid (And.intro g2 W2)
  clear HV2 k1 k2 g1 g2 W1 W2 hw2
  go_wp2_with fail
  go_ret
  exact ⟨rfl, HF.out.1, HF.out.2⟩
end
end Go.Proofs.YtmnhpmgffhpoeaaGreat.Bt
/- The contract of field.Of. -/
namespace Go.Proofs.YtmnhpmgffhpoeaaGreat.Bt
open Go Go.RowKit Go.Shelf
set_option linter.unusedVariables false
set_option linter.unusedSimpArgs false

def rec0 : Array Value := recC 0 (fun _ => 0)
theorem setRow_ad {x : World} {O : Nat} {c : Array Value} {T : TypeId} (h : x.heap[O]? = some (.cells c T (0, 0))) (d : Array Value) : (x.setRow O d).heap[O]? = some (.cells d T (0, 0)) := setRow_heap _ _ _ _ _ _ h
theorem rec0_size : rec0.size = 34 := recC_size _ _
theorem rec_one (n : Nat) (f : Nat → Nat) : (recC n f).all (·.oneCell') = true := by
  rw [Array.all_eq_true]
  intro i hi
  rw [recC_size] at hi
  rcases i with _ | i
  · have := recC_0 n f; rw [Array.getElem?_eq_getElem (by rw [recC_size]; omega)] at this
    simp only [Option.some.injEq] at this; rw [this]; rfl
  · have := recC_at n f i (by omega); rw [Nat.add_comm, Array.getElem?_eq_getElem (by rw [recC_size]; omega)] at this
    simp only [Option.some.injEq] at this; rw [this]; rfl
theorem built0 : (Tryz.prog.built 103 []).getD #[] = rec0 := by kernel_rfl
theorem builtN (n : Nat) : (Tryz.prog.built 103 [(0, .int .i64 (n : Int))]).getD #[] = recC n (fun _ => 0) := by kernel_rfl
theorem of_none (p : Option Addr) (c : Nat) (w : World)  :
    Calls Tryz.prog 56 #[.slice p 0 c] w (Gives (.tuple #[.agg rec0, .int .i64 17]) w) := by
  have HSZ : Hid ((Tryz.prog.info? 103).map (·.size) = some rec0.size) := Lib.hid (by rw [rec0_size]; exact Tryz.infoRec)
  have HB0 := Lib.hid built0
  go_enter Tryz.func56, Tryz.ntmps56
  go_upto_region 2 with fail
  obtain ⟨x, hx⟩ : ∃ x, w.alloc (.cells rec0 103) = x := ⟨_, rfl⟩
  have hR : x.heap[w.heap.size]? = some (.cells rec0 103 (0, 0)) := by rw [← hx]; exact heap_new _ _
  have bx : Below w.heap.size w x := by rw [← hx]; exact bel1 _ _
  have HR := Lib.hid hR; have BX := Lib.hid bx
  change Code.wp _ _ _ _ (w.alloc (.cells rec0 103))
  rw [hx]
  clear hR bx hx
  go_wp2_with (first | (refine wpList_build rfl 103 #[] rfl (by kernel_rfl) ?_; simp only [List.map_toArray, List.map_nil]; rw [HB0.out]) | (refine wpList_store_row rfl 103 (.tmp 2) (.tmp 10) rfl w.heap.size rec0 rfl rfl 103 rec0 HR.out HSZ.out rfl (rec_one _ _) ?_))
  have hl := run_loadVar_row (P := Tryz.prog) (x.setRow w.heap.size rec0) w.heap.size 103 103 rec0 (0, 0) _ (setRow_heap _ _ _ _ _ _ HR.out) Tryz.underlying103 rfl HSZ.out
  exact bodyPost_ret (v := .tuple #[.agg rec0, .int .i64 17]) (by simp [results, Tryz.results56, asAddr, hl]) rfl ⟨rfl, below_setRow BX.out (Nat.le_refl _) _⟩
set_option maxRecDepth 100000 in
theorem of_many (p : Option Addr) (n c : Nat) (w : World) (hn : 32 < n) (hn2 : n ≤ 9223372036854775807) :
    Calls Tryz.prog 56 #[.slice p n c] w (Gives (.tuple #[.agg rec0, .int .i64 15]) w) := by
  have HSZ : Hid ((Tryz.prog.info? 103).map (·.size) = some rec0.size) := Lib.hid (by rw [rec0_size]; exact Tryz.infoRec)
  have HB0 := Lib.hid built0
  have d0 : ((n : Int) == 0) = false := by simp; omega
  have d1 : decide (32 < (n : Int)) = true := by simp; omega
  clear hn
  go_enter Tryz.func56, Tryz.ntmps56
  go_upto_region 4 with fail
  obtain ⟨x, hx⟩ : ∃ x, w.alloc (.cells rec0 103) = x := ⟨_, rfl⟩
  have hR : x.heap[w.heap.size]? = some (.cells rec0 103 (0, 0)) := by rw [← hx]; exact heap_new _ _
  have bx : Below w.heap.size w x := by rw [← hx]; exact bel1 _ _
  have HR := Lib.hid hR; have BX := Lib.hid bx
  change Code.wp _ _ _ _ (w.alloc (.cells rec0 103))
  rw [hx]
  clear hR bx hx
  go_wp2_with (first | (refine wpList_build rfl 103 #[] rfl (by kernel_rfl) ?_; simp only [List.map_toArray, List.map_nil]; rw [HB0.out]) | (refine wpList_store_row rfl 103 (.tmp 2) (.tmp 14) rfl w.heap.size rec0 rfl rfl 103 rec0 HR.out HSZ.out rfl (rec_one _ _) ?_))
  have hl := run_loadVar_row (P := Tryz.prog) (x.setRow w.heap.size rec0) w.heap.size 103 103 rec0 (0, 0) _ (setRow_heap _ _ _ _ _ _ HR.out) Tryz.underlying103 rfl HSZ.out
  exact bodyPost_ret (v := .tuple #[.agg rec0, .int .i64 15]) (by simp [results, Tryz.results56, asAddr, hl]) rfl ⟨rfl, below_setRow BX.out (Nat.le_refl _) _⟩
/-- a slice of numbers that came in -/
def WsAt (w : World) (p : Option Addr) (ws : List Int) : Prop :=
  ws.length = 0 ∨ ∃ b off, p = some ⟨b, off, none⟩ ∧ b < w.heap.size ∧ ∀ i, i < ws.length → w.cell? ⟨b, off + i, none⟩ = some (.int .i64 (ws.getD i 0))
theorem WsAt.below {w w' : World} {p : Option Addr} {ws : List Int} (h : WsAt w p ws) (hb : Below w.heap.size w w') : WsAt w' p ws := by
  rcases h with h | ⟨b, off, rfl, hlt, hc⟩
  · exact .inl h
  · exact .inr ⟨b, off, rfl, Nat.lt_of_lt_of_le hlt hb.size, fun i hi => (hb.cell (p := ⟨b, off + i, none⟩) hlt).trans (hc i hi)⟩
def sumW (ws : List Int) (i : Nat) : Nat := ((ws.take i).map Int.toNat).sum
theorem sumW_succ (ws : List Int) (i : Nat) (h : i < ws.length) : sumW ws (i + 1) = sumW ws i + (ws.getD i 0).toNat := by
  unfold sumW
  rw [List.take_succ_eq_append_getElem h, List.map_append, List.sum_append]
  simp [List.getD_eq_getElem?_getD, h]
def fP (ws : List Int) (j i : Nat) : Nat := if i ≤ j then sumW ws i else 0
def wOk (x : Int) : Bool := decide (x = 1 ∨ x = 2 ∨ x = 4 ∨ x = 8)
theorem fP_zero (ws : List Int) (n : Nat) : recC n (fP ws 0) = recC n (fun _ => 0) := by
  have e : fP ws 0 = fun _ => 0 := by
    funext i
    unfold fP sumW
    by_cases h : i ≤ 0
    · obtain rfl : i = 0 := by omega
      simp
    · rw [if_neg h]
  rw [e]
theorem fP_step (ws : List Int) (n j : Nat) (hj : j < ws.length) (h33 : j + 1 < 33) (v : Nat) (hv : v = sumW ws (j + 1)) : (recC n (fP ws j)).setIfInBounds (1 + (j + 1)) (.int .i64 (v : Int)) = recC n (fP ws (j + 1)) := by
  subst hv
  apply Array.ext_getElem?
  intro i
  rw [Array.getElem?_setIfInBounds]
  by_cases e : 1 + (j + 1) = i
  · subst e
    rw [if_pos rfl, recC_size, if_pos (by omega), recC_at _ _ _ h33]
    unfold fP; rw [if_pos (Nat.le_refl _)]
  · rw [if_neg e]
    rcases i with _ | i
    · rw [recC_0, recC_0]
    · by_cases hi : i < 33
      · rw [Nat.add_comm, recC_at _ _ _ hi, recC_at _ _ _ hi]
        unfold fP
        by_cases h1 : i ≤ j
        · rw [if_pos h1, if_pos (by omega)]
        · rw [if_neg h1, if_neg (by omega)]
      · rw [Array.getElem?_eq_none (by rw [recC_size]; omega), Array.getElem?_eq_none (by rw [recC_size]; omega)]
theorem take_ok {ws : List Int} {j : Nat} (h : (ws.take j).all wOk = true) : ∀ i, i < j → i < ws.length → wOk (ws.getD i 0) = true := fun i h1 h2 => by
  rw [List.all_eq_true] at h
  refine h _ ?_
  rw [List.getD_eq_getElem?_getD, List.getElem?_eq_getElem h2]
  exact List.mem_take_iff_getElem.2 ⟨i, by omega, rfl⟩
theorem sumW_le {ws : List Int} {j : Nat} (h : (ws.take j).all wOk = true) (hj : j ≤ ws.length) : sumW ws j ≤ 8 * j := by
  induction j with
  | zero => simp [sumW]
  | succ j ih =>
    have h2 := take_ok h j (by omega) (by omega)
    have h3 : (ws.take j).all wOk = true := by
      rw [List.all_eq_true] at h ⊢
      intro x hx
      exact h x ((List.take_prefix_take_left (by omega)).subset hx)
    rw [sumW_succ ws j (by omega)]
    have := ih h3 (by omega)
    have h4 : ws.getD j 0 = 1 ∨ ws.getD j 0 = 2 ∨ ws.getD j 0 = 4 ∨ ws.getD j 0 = 8 := by unfold wOk at h2; simpa using h2
    omega
theorem take_all_succ {ws : List Int} {j : Nat} (h : (ws.take j).all wOk = true) (hj : j < ws.length) (h2 : wOk (ws.getD j 0) = true) : (ws.take (j + 1)).all wOk = true := by
  rw [List.take_succ_eq_append_getElem hj, List.all_append, h]
  simpa [List.getD_eq_getElem?_getD, hj] using h2
def okV (ws : List Int) : Value := if ws.all wOk then .tuple #[.agg (recC ws.length (fP ws ws.length)), .int .i64 0] else .tuple #[.agg rec0, .int .i64 2]
/-- what the loop keeps -/
structure OfAt (R B n j : Nat) (ws : List Int) (w x : World) : Prop where
  r : x.heap[R]? = some (.cells rec0 103 (0, 0))
  b : VR B n (fP ws j) x
  bel : Below w.heap.size w x
set_option maxRecDepth 100000 in
set_option maxHeartbeats 4000000 in
theorem of_in (p : Option Addr) (n c : Nat) (ws : List Int) (hn : n = ws.length) (h0 : 0 < n) (h1 : n ≤ 32) (w : World) (hw : WsAt w p ws) :
    Calls Tryz.prog 56 #[.slice p n c] w (Gives (okV ws) w) := by
  obtain ⟨b, off, rfl, hlt0, hc⟩ : ∃ b off, p = some ⟨b, off, none⟩ ∧ b < w.heap.size ∧ ∀ i, i < ws.length → w.cell? ⟨b, off + i, none⟩ = some (.int .i64 (ws.getD i 0)) := by
    rcases hw with h | h
    · omega
    · exact h
  have HSZ : Hid ((Tryz.prog.info? 103).map (·.size) = some rec0.size) := Lib.hid (by rw [rec0_size]; exact Tryz.infoRec)
  have HSN : Hid (∀ f, (Tryz.prog.info? 103).map (·.size) = some (recC n f).size) := Lib.hid (fun f => by rw [recC_size]; exact Tryz.infoRec)
  have HB0 := Lib.hid built0
  have HBN := Lib.hid (builtN n)
  have HCW := Lib.hid hc
  have HN := Lib.hid hn
  have d0 : ((n : Int) == 0) = false := by simp; omega
  have d1 : decide (32 < (n : Int)) = false := by simp; omega
  clear hw hc hn
  go_enter Tryz.func56, Tryz.ntmps56
  go_upto_region 5 with fail
  obtain ⟨x, hx⟩ : ∃ x, w.alloc (.cells rec0 103) = x := ⟨_, rfl⟩
  have hR : x.heap[w.heap.size]? = some (.cells rec0 103 (0, 0)) := by rw [← hx]; exact heap_new _ _
  have bx : Below w.heap.size w x := by rw [← hx]; exact bel1 _ _
  have hs : x.heap.size = w.heap.size + 1 := by rw [← hx]; simp
  have HR := Lib.hid hR; have BX := Lib.hid bx; have HS := Lib.hid hs
  change Code.wp _ _ _ _ (w.alloc (.cells rec0 103))
  rw [hx]
  clear hR bx hx hs
  have hB := heap_new x (.cells rec0 103)
  have HB := Lib.hid hB
  clear hB
  go_upto_region 6 with (first | (refine wpList_build rfl 103 #[(0, .tmp 16)] rfl (by kernel_rfl) ?_; simp only [List.map_toArray, List.map_nil, List.map_cons]; rw [show _ = recC n (fun _ => 0) from HBN.out]) | (refine wpList_store_row rfl 103 (.tmp 4) (.tmp 17) rfl x.heap.size (recC n (fun _ => 0)) rfl rfl 103 rec0 HB.out (HSN.out _) (by rw [rec0_size, recC_size]) (rec_one _ _) ?_; simp only [Act.put, List.setIfInBounds_toArray, List.set_cons_zero, List.set_cons_succ]))
  obtain ⟨y, hy⟩ : ∃ y, (x.alloc (.cells rec0 103)).setRow x.heap.size (recC n (fun _ => 0)) = y := ⟨_, rfl⟩
  obtain ⟨B, hBB⟩ : ∃ B, x.heap.size = B := ⟨_, rfl⟩
  obtain ⟨R, hRR⟩ : ∃ R, w.heap.size = R := ⟨_, rfl⟩
  have hle : w.heap.size ≤ B ∧ R < B := by have := HS.out; omega
  have hO : OfAt R B n 0 ws w y := by
    have hb := setRow_ad HB.out (recC n (fun _ => 0))
    refine ⟨?_, ?_, ?_⟩
    · rw [← hy, setRow_other _ _ _ _ (by omega), ← hRR]; exact (Below.heap_alloc _ _ _ (by have := HS.out; omega)).trans HR.out
    · unfold VR; rw [fP_zero, ← hy, ← hBB]; exact hb
    · rw [← hy]; exact below_setRow (BX.out.alloc BX.out.size _) (by omega) _
  change Code.wp _ _ _ _ ((x.alloc (.cells rec0 103)).setRow x.heap.size (recC n (fun _ => 0)))
  rw [hy, hBB, hRR]
  have HO := Lib.hid hO; have HRR := Lib.hid hRR
  clear hO hy hBB HB BX HR HS hRR
  go_wp2_with fail
  go_loopw [20] (fun v wr => ∃ j : Nat, j ≤ n ∧ v = .int .i64 (j : Int) ∧ (ws.take j).all wOk = true ∧ OfAt R B n j ws w wr) (fun v _ => n - (intOf v).toNat)
  case atStart => exact ⟨0, Nat.zero_le _, rfl, by simp, HO.out⟩
  case round =>
    obtain ⟨j, hj, rfl, ha, ho⟩ := hrel
    have HA := Lib.hid ha; have HOJ := Lib.hid ho
    clear ha ho HO
    by_cases hlt : j < n
    · have hjw : j < ws.length := by have := HN.out; omega
      have hcj : wr.cell? ⟨b, off + j, none⟩ = some (.int .i64 (ws.getD j 0)) := (HOJ.out.bel.cell (p := ⟨b, off + j, none⟩) hlt0).trans (HCW.out j hjw)
      have hcf := HOJ.out.b.f j (by omega)
      have hff := (cell_blk HOJ.out.b (1 + (j + 1))).2
      have hcg := HOJ.out.b.f (j + 1) (by omega)
      cases hok : wOk (ws.getD j 0) with
      | true =>
        have HOK := Lib.hid hok
        obtain ⟨g, hg⟩ : ∃ g, ws.getD j 0 = g := ⟨_, rfl⟩
        have HG := Lib.hid hg
        rw [hg] at hcj hok
        have h4 : g = 1 ∨ g = 2 ∨ g = 4 ∨ g = 8 := by unfold wOk at hok; simpa using hok
        have hfb : ((fP ws j j : Nat) : Int) ≤ 256 := by
          have := sumW_le HA.out (by omega)
          unfold fP; rw [if_pos (Nat.le_refl _)]; omega
        have hfs : ∀ k : Nat, g = k → fP ws j j + k = sumW ws (j + 1) := fun k hk => by
          unfold fP; rw [if_pos (Nat.le_refl _), sumW_succ ws j hjw, HG.out, hk, Int.toNat_natCast]
        have HFS := Lib.hid hfs
        have hrb : Below w.heap.size w wr := HOJ.out.bel
        clear hok hg hfs
        have HRB := Lib.hid hrb
        clear hrb
        rcases h4 with rfl | rfl | rfl | rfl
        all_goals
          go_wp2_with fail
          go_roundw
          case rel =>
            refine ⟨j + 1, by omega, by go_num, take_all_succ HA.out hjw HOK.out, (set_other _ (by omega)).trans HOJ.out.r, ?_, HOJ.out.bel.setCell (p := ⟨B, _, none⟩) hle.1 _⟩
            unfold VR
            rw [← fP_step ws n j hjw (by omega) _ (HFS.out _ rfl)]
            exact heap_set HOJ.out.b _
          case measure => simp [intOf]; omega
      | false =>
        have HV : Hid (okV ws = .tuple #[.agg rec0, .int .i64 2]) := Lib.hid (by
          unfold okV; rw [if_neg]
          intro hall
          rw [List.all_eq_true] at hall
          have := hall (ws.getD j 0) (by rw [List.getD_eq_getElem?_getD, List.getElem?_eq_getElem hjw]; exact List.getElem_mem hjw)
          rw [hok] at this; cases this)
        obtain ⟨g, hg⟩ : ∃ g, ws.getD j 0 = g := ⟨_, rfl⟩
        rw [hg] at hcj hok
        have h4 : ¬ g = 1 ∧ ¬ g = 2 ∧ ¬ g = 4 ∧ ¬ g = 8 := by unfold wOk at hok; simpa [not_or] using hok
        obtain ⟨k1, k2, k3, k4⟩ := h4
        have e1 : (g != 1) = true := by simpa using k1
        have e2 : (g != 2) = true := by simpa using k2
        have e3 : (g != 4) = true := by simpa using k3
        have e4 : (g != 8) = true := by simpa using k4
        clear hok hg k1 k2 k3 k4 hcf hff hcg
        go_wp2_with (first | (refine wpList_build rfl 103 #[] rfl (by kernel_rfl) ?_; simp only [List.map_toArray, List.map_nil]; rw [HB0.out]) | (refine wpList_store_row rfl 103 (.tmp 2) (.tmp 39) rfl R rec0 rfl rfl 103 rec0 HOJ.out.r HSZ.out rfl (rec_one _ _) ?_))
        have hl := run_loadVar_row (P := Tryz.prog) (wr.setRow R rec0) R 103 103 rec0 (0, 0) _ (setRow_ad HOJ.out.r rec0) Tryz.underlying103 rfl HSZ.out
        exact bodyPost_ret (v := .tuple #[.agg rec0, .int .i64 2]) (by simp [results, Tryz.results56, asAddr, hl]) rfl ⟨by rw [HV.out], below_setRow HOJ.out.bel (by have := HRR.out; omega) _⟩
    · have hje : j = n := by omega
      have HV : Hid (okV ws = .tuple #[.agg (recC n (fP ws n)), .int .i64 0]) := Lib.hid (by
        have hn := HN.out
        have hall : ws.all wOk = true := by have := HA.out; rw [hje, hn, List.take_length] at this; exact this
        unfold okV; rw [if_pos hall, ← hn])
      have HOn : Hid (OfAt R B n n ws w wr) := Lib.hid (hje ▸ HOJ.out)
      clear hje
      go_wp2_with (first | (refine wpList_load_row rfl 103 (.tmp 4) rfl B rfl 103 (recC n (fP ws n)) (0, 0) _ HOn.out.b Tryz.underlying103 rfl (HSN.out _) ?_) | (refine wpList_store_row rfl 103 (.tmp 2) (.tmp 51) rfl R (recC n (fP ws n)) rfl rfl 103 rec0 HOn.out.r (HSN.out _) (by rw [rec0_size, recC_size]) (rec_one _ _) ?_))
      have hl := run_loadVar_row (P := Tryz.prog) (wr.setRow R (recC n (fP ws n))) R 103 103 (recC n (fP ws n)) (0, 0) _ (setRow_ad HOn.out.r _) Tryz.underlying103 rfl (HSN.out _)
      exact bodyPost_ret (v := .tuple #[.agg (recC n (fP ws n)), .int .i64 0]) (by simp [results, Tryz.results56, asAddr, hl]) rfl ⟨by rw [HV.out], below_setRow HOn.out.bel (by have := HRR.out; omega) _⟩
end Go.Proofs.YtmnhpmgffhpoeaaGreat.Bt
/- The contract of Decommit: what it returns, and what it turns. -/
namespace Go.Proofs.YtmnhpmgffhpoeaaGreat.Bt
open Go Go.RowKit Go.Shelf
set_option linter.unusedVariables false

/-- the pages from a on, k of them, gone -/
def clrP (ps : List (Option Nat)) (a k : Nat) : List (Option Nat) := ps.take a ++ List.replicate k none ++ ps.drop (a + k)
theorem clrP_length (ps : List (Option Nat)) (a k : Nat) (h : a + k ≤ ps.length) : (clrP ps a k).length = ps.length := by simp [clrP]; omega
theorem clrP_get (ps : List (Option Nat)) (a k : Nat) (h : a + k ≤ ps.length) (i : Nat) : (clrP ps a k)[i]? = if a ≤ i ∧ i < a + k then some none else ps[i]? := by
  unfold clrP
  by_cases h1 : i < a
  · rw [List.append_assoc, List.getElem?_append_left (by rw [List.length_take]; omega), List.getElem?_take, if_pos h1, if_neg (by omega)]
  · by_cases h2 : i < a + k
    · rw [List.append_assoc, List.getElem?_append_right (by rw [List.length_take]; omega), List.length_take, List.getElem?_append_left (by rw [List.length_replicate]; omega), List.getElem?_replicate, if_pos (by omega), if_pos (by omega)]
    · rw [List.getElem?_append_right (by rw [List.length_append, List.length_take, List.length_replicate]; omega), List.length_append, List.length_take, List.length_replicate, List.getElem?_drop, if_neg (by omega)]
      congr 1; omega
def clrM (m : Nat → UInt8) (a k : Nat) : Nat → UInt8 := fun i => if a * 4096 ≤ i ∧ i < (a + k) * 4096 then 0 else m i

theorem run_clear (w : World) (P : Nat) (ps : List (Option Nat)) (a k c : Nat) (hk : 0 < k) (h : a + k ≤ ps.length) (hP : w.heap[P]? = some (.cells (rowV ps) 77 (0, 0))) (ty : TypeId) :
    (Builtin.clear_ #[74] ty #[.slice (some ⟨P, a, none⟩) k c]).run Tryz.prog w = .ok (.tuple #[]) (w.setRow P (rowV (clrP ps a k))) := by
  obtain ⟨i0, hi, hz0, hz1, hz2⟩ := info_parts Tryz.infoPtr
  have hz : (Builtin.zeroCells (Value.pointer none).cells k).toList = List.replicate k (.pointer none) := by
    apply List.ext_getElem?
    intro j
    by_cases hj : j < k
    · simp [Builtin.zeroCells, Value.cells, hj, Nat.mod_one]
    · rw [List.getElem?_eq_none (by simp [Builtin.zeroCells, Value.cells]; omega), List.getElem?_eq_none (by simp; omega)]
  have hst := run_storeCells_at Tryz.prog P a 77 (List.replicate k (.pointer none)) 0 (rowV ps) w hP (by simp [rowV]; omega) (fun v hv => by rw [List.eq_of_mem_replicate hv]; rfl)
  have he : ((rowV ps).toList.take (a + 0) ++ List.replicate k (Value.pointer none) ++ (rowV ps).toList.drop (a + 0 + (List.replicate k (Value.pointer none)).length)).toArray = rowV (clrP ps a k) := by
    simp [rowV, clrP, ptrV, List.map_take, List.map_drop, List.map_replicate]
  rw [he] at hst
  obtain ⟨k', rfl⟩ : ∃ k', k = k' + 1 := ⟨k - 1, by omega⟩
  simp [Builtin.clear_, run_underlying Tryz.underlying74, zeroValue, typeInfo, hi, hz0, hz]
  rw [hst]; rfl
section
variable {A P n cap : Nat} {s : ASt} {ps : List (Option Nat)} {p : Option Addr} {w : World}
theorem cleared (h : ArX A s P ps p n cap w) (a k : Nat) (hk : a + k ≤ s.L) :
    ArX A { s with mm := clrM s.mm a k } P (clrP ps a k) p n cap (w.setRow P (rowV (clrP ps a k))) ∧ Step A P ps (clrP ps a k) w (w.setRow P (rowV (clrP ps a k))) := by
  have hkl : a + k ≤ ps.length := by rw [h.len]; exact hk
  have hget : ∀ i b : Nat, (clrP ps a k)[i]? = some (some b) → ps[i]? = some (some b) ∧ ¬ (a ≤ i ∧ i < a + k) := fun i b hi => by
    rw [clrP_get ps a k hkl] at hi
    by_cases c : a ≤ i ∧ i < a + k
    · rw [if_pos c] at hi; cases hi
    · rw [if_neg c] at hi; exact ⟨hi, c⟩
  refine ⟨{ h with
    len := by rw [clrP_length ps a k hkl]; exact h.len
    hd := (setRow_other _ _ _ _ h.ap).trans h.hd
    row := setRow_heap _ _ _ _ _ _ h.row
    pg := fun i b hi => ?_
    no := fun i hi j hj => ?_
    un := fun i b hi => h.un i b (hget i b hi).1
    edges := h.edges.keep fun b off e => setRow_other _ _ _ _ (h.eap b off e).2.1
    apg := fun i b hi => h.apg i b (hget i b hi).1
    one := fun i j b hi hj => h.one i j b (hget i b hi).1 (hget j b hj).1
    eap := fun b off e => ⟨(h.eap b off e).1, (h.eap b off e).2.1, fun i hi => (h.eap b off e).2.2 i (hget i b hi).1⟩ }, ⟨rfl, rfl, rfl, by rw [setRow_size]; exact Nat.le_refl _, fun k _ hn => setRow_other _ _ _ _ (fun e => hn (.inr (.inl e))), fun i b hi => .inl (hget i b hi).1⟩⟩
  · obtain ⟨h1, h2⟩ := hget i b hi
    refine (setRow_other _ _ _ _ (h.apg i b h1).2).trans ((h.pg i b h1).trans ?_)
    rw [pg_ext fun j hj => ?_]
    show s.mm (i * 4096 + j) = clrM s.mm a k (i * 4096 + j)
    unfold clrM
    rw [if_neg]
    rintro ⟨x1, x2⟩
    exact h2 ⟨by omega, by omega⟩
  · show clrM s.mm a k (i * 4096 + j) = 0
    unfold clrM
    by_cases c : a * 4096 ≤ i * 4096 + j ∧ i * 4096 + j < (a + k) * 4096
    · rw [if_pos c]
    · rw [if_neg c]
      rw [clrP_get ps a k hkl] at hi
      rw [if_neg (by rintro ⟨x1, x2⟩; exact c ⟨by omega, by omega⟩)] at hi
      exact h.no i hi j hj

def decE (s : ASt) (a k : Int) : Int := if countE s.L a k ≠ 0 then countE s.L a k else if countR s.L s.es a k < k then 8 else 0
def decS (s : ASt) (a k : Int) : ASt := if decE s a k = 0 then { s with es := laidS s.L s.es a k false, mm := clrM s.mm a.toNat k.toNat } else s
end
end Go.Proofs.YtmnhpmgffhpoeaaGreat.Bt
/- Numbers laid and read. -/
namespace Go.Proofs.YtmnhpmgffhpoeaaGreat.Bt
open Go Go.RowKit Go.Shelf
set_option linter.unusedVariables false

theorem numV_congr {m m' : Nat → UInt8} {a k : Nat} (h : ∀ j, j < k → m (a + j) = m' (a + j)) : numV m a k = numV m' a k := by
  induction k with
  | zero => rfl
  | succ k ih => unfold numV; rw [ih fun j hj => h j (by omega), h k (by omega)]
theorem numV_store (m : Nat → UInt8) (a : Nat) (x : Int) (k : Nat) : numV (putM m a (numB x k)) a k = x.toNat % 2 ^ (8 * k) := by
  have key : ∀ j, j ≤ k → numV (putM m a (numB x k)) a j = x.toNat % 2 ^ (8 * j) := by
    intro j
    induction j with
    | zero => intro _; simp [numV, Nat.mod_one]
    | succ j ih =>
      intro hj
      unfold numV
      rw [ih (by omega), putM_in _ _ _ (by rw [numB_length]; omega)]
      have e : (numB x k).getD j 0 = byteN x j := by simp [numB, List.getD_eq_getElem?_getD, show j < k from by omega]
      rw [e]
      unfold byteN
      have e2 : 2 ^ (8 * (j + 1)) = 2 ^ (8 * j) * 256 := by rw [show 8 * (j + 1) = 8 * j + 8 from by omega, Nat.pow_add]
      rw [e2, Nat.mod_mul]
      simp [Nat.mul_comm]
  exact key k (Nat.le_refl k)
/-- no other bytes laid -/
theorem putS_full {m : Nat → UInt8} {y : Int} {x : List UInt8} (an kn : Nat) (h : y < 0 ∨ (an : Int) + kn ≤ y ∨ y + (x.length : Int) ≤ an) :
    ∃ m', putS (fullS 8 m) y x = fullS 8 m' ∧ ∀ j, j < kn → m' (an + j) = m (an + j) := by
  unfold putS
  split
  · rename_i ht
    have hy : 0 ≤ y := by
      have e := thereE_full (L := 8) (by omega) (by omega) y x.length
      rw [show thereE (fullS 8 m).L (fullS 8 m).es y x.length = thereE 8 [0, 8] y x.length from rfl] at ht
      rw [e] at ht
      split at ht
      · omega
      · cases ht
    exact ⟨putM m y.toNat x, rfl, fun j hj => putM_out _ _ _ (by omega)⟩
  · exact ⟨m, rfl, fun _ _ => rfl⟩
end Go.Proofs.YtmnhpmgffhpoeaaGreat.Bt
/- Noughts; numbers laid and read. -/
namespace Go.Proofs.YtmnhpmgffhpoeaaGreat.Bt
open Go Go.RowKit Go.Shelf
set_option linter.unusedVariables false

theorem noughts_any (k : Nat) (hk : k ≤ 4294967296) (w : World) : Calls Tryz.prog 85 #[.int .i64 k] w fun e w' => e = .returned (.string (strL (List.replicate k 0))) ∧ Below w.heap.size w w' := by
  have HMK := run_bytes (a := 0) k (fun _ => 0) hk w
  have HCV : (convert 118 9 (.slice (some ⟨w.heap.size, 0, none⟩) k k)).run Tryz.prog (w.alloc (.cells (outV (a := 0) (n := k) (fun _ => 0) []) 5)) = .ok (.string (strL (List.replicate k 0))) (w.alloc (.cells (outV (a := 0) (n := k) (fun _ => 0) []) 5)) := by
    have h := run_convert_bytes_arg (P := Tryz.prog) (w.alloc (.cells (outV (a := 0) (n := k) (fun _ => 0) []) 5)) 118 5 Tryz.underlying118 Tryz.underlying5 w.heap.size 0 k k ((List.range k).map fun i => 0) (by simp) (fun i hi => by
      rw [(cell_blk (heap_new w _) _).1, Nat.zero_add, outV_get _ [] i hi]
      simp [List.getD_eq_getElem?_getD, hi, cov]) 9 Tryz.underlying9
    have e2 : strOfNums ((List.range k).map fun i => 0) = strL (List.replicate k 0) := by
      have e : ∀ l : List Nat, ((l.map fun _ => (0 : Int)).map fun n : Int => UInt8.ofNat n.toNat) = List.replicate l.length 0 := by
        intro l
        induction l with
        | nil => rfl
        | cons a l ih => rw [List.map_cons, List.map_cons, ih, List.length_cons, List.replicate_succ]; rfl
      unfold strOfNums strL
      rw [e, List.length_range]
    rw [e2] at h
    exact h
  go_enter Tryz.func85, Tryz.ntmps85
  go_wp2_with fail
  go_ret
  exact ⟨rfl, (Below.refl _ _).alloc (Nat.le_refl _) _⟩
end Go.Proofs.YtmnhpmgffhpoeaaGreat.Bt
/- The document's arena of one page, made and committed, as the statements of layer 5 make it. -/
namespace Go.Proofs.YtmnhpmgffhpoeaaGreat.Bt
open Go Go.RowKit Go.Shelf
set_option linter.unusedVariables false

abbrev docV (p : Option Addr) (n cap : Nat) (r : Int) : Value := .agg #[.slice p n cap, .int .i64 r]
theorem Tryz.infoString : (Tryz.prog.info? 9).map (fun i => (i.zero, i.size, i.bytes)) = some (some (.string ⟨#[]⟩), 1, 16) := by kernel_rfl
def strC (l : List ByteArray) : Array Value := (l.map Value.string).toArray
theorem strC_get (l : List ByteArray) (i : Nat) (h : i < l.length) : (strC l)[i]? = some (.string l[i]) := by simp [strC, h]
theorem strC_size (l : List ByteArray) : (strC l).size = l.length := by simp [strC]
theorem made_strs (n : Nat) : madeCells (Value.string ⟨#[]⟩).cells (n * 1) = strC (List.replicate n ⟨#[]⟩) := by
  apply Array.ext_getElem?
  intro j
  by_cases hj : j < n
  · rw [strC_get _ _ (by simpa using hj)]; simp [madeCells, hj, Value.cells, Nat.mod_one]
  · rw [Array.getElem?_eq_none (by rw [size_madeCells]; omega), Array.getElem?_eq_none (by simp [strC]; omega)]
theorem run_strs (n : Nat) (hn : n ≤ 1048576) (w : World) :
    (Instr.makeSlice 106 (.int .i64 (n : Int)) (.int .i64 (n : Int))).run Tryz.prog w = .ok (.slice (some ⟨w.heap.size, 0, none⟩) n n) (w.alloc (.cells (strC (List.replicate n ⟨#[]⟩)) 9)) := by
  obtain ⟨i0, hi, hz0, hz1, hz2⟩ := info_parts Tryz.infoString
  have h := run_make (P := Tryz.prog) w 106 9 i0 (.string ⟨#[]⟩) Tryz.underlying106 hi hz0 .i64 .i64 (n : Int) n (by omega) (Int.le_refl _) (by rw [hz2]; omega) (by omega)
  rw [Int.toNat_natCast, hz1, made_strs] at h
  exact h
def DocNew (w : World) (e : Ending) (w' : World) : Prop := ∃ b, e = .returned (docV (some ⟨b, 0, none⟩) 1 1 (-1)) ∧ w'.heap[b]? = some (.cells #[.string ⟨#[]⟩] 9 (0, 0)) ∧ Below w.heap.size w w'
theorem rnew_one (w : World) : Calls Tryz.prog 70 #[.int .i64 1] w (DocNew w) := by
  have HMK : ∀ w : World, (Instr.makeSlice 106 (.int .i64 1) (.int .i64 1)).run Tryz.prog w = .ok (.slice (some ⟨w.heap.size, 0, none⟩) 1 1) (w.alloc (.cells #[.string ⟨#[]⟩] 9)) := fun w => run_strs 1 (by omega) w
  go_enter Tryz.func70, Tryz.ntmps70
  go_wp2_with fail
  exact bodyPost_ret (v := docV (some ⟨w.heap.size + 1, 0, none⟩) 1 1 (-1)) (by simp [results, Tryz.results70, go_sem]) rfl ⟨_, rfl, heap_old2 _ _ _, below2 _ _ _⟩
theorem rhas_one (b : Nat) (r : Int) (w : World) (hb : w.heap[b]? = some (.cells #[.string ⟨#[]⟩] 9 (0, 0))) :
    Calls Tryz.prog 94 #[docV (some ⟨b, 0, none⟩) 1 1 r, .int .i64 0] w (Gives (.bool false) w) := by
  have h2 := (bel1 w (.cells #[.slice (some ⟨b, 0, none⟩) 1 1, .int .i64 r] 108)).block b (Array.getElem?_eq_some_iff.1 hb).1
  have c0 := (cell_blk (h2.trans hb) 0).1
  clear hb h2
  go_enter Tryz.func94, Tryz.ntmps94
  go_wp2_with fail
  go_ret
  exact ⟨rfl, bel1 _ _⟩
set_option maxHeartbeats 1000000 in
theorem rwrong_one (b : Nat) (r : Int) (w : World) (hb : w.heap[b]? = some (.cells #[.string ⟨#[]⟩] 9 (0, 0))) :
    Calls Tryz.prog 84 #[docV (some ⟨b, 0, none⟩) 1 1 r, .int .i64 0, .int .i64 1, .bool false, .int .i64 9] w (Gives (.int .i64 0) w) := by
  have HB := Lib.hid hb
  have hbl := Lib.hid (bel1 w (.cells #[.slice (some ⟨b, 0, none⟩) 1 1, .int .i64 r] 108))
  have hv := Lib.hid (heap_new w (.cells #[.slice (some ⟨b, 0, none⟩) 1 1, .int .i64 r] 108))
  clear hb
  go_enter Tryz.func84, Tryz.ntmps84
  go_wp2_with fail
  obtain ⟨V, hV⟩ : ∃ V, w.heap.size = V := ⟨_, rfl⟩
  obtain ⟨w1, hw1⟩ : ∃ x, w.alloc (.cells #[.slice (some ⟨b, 0, none⟩) 1 1, .int .i64 r] 108) = x := ⟨_, rfl⟩
  rw [hw1] at hv hbl ⊢
  rw [hV] at hv ⊢
  have HVV := Lib.hid hV
  clear hw1 hV
  go_loopw [11] (fun v wr => ∃ k : Nat, k ≤ 1 ∧ v = .int .i64 (k : Int) ∧ wr.heap[V]? = some (.cells #[.slice (some ⟨b, 0, none⟩) 1 1, .int .i64 r] 108 (0, 0)) ∧ wr.heap[b]? = some (.cells #[.string ⟨#[]⟩] 9 (0, 0)) ∧ Below w.heap.size w wr) (fun v _ => 1 - (intOf v).toNat)
  case atStart => exact ⟨0, by omega, rfl, hv.out, (hbl.out.block b (Array.getElem?_eq_some_iff.1 HB.out).1).trans HB.out, hbl.out⟩
  case round =>
    obtain ⟨k, hk, rfl, h1, h2, h3⟩ := hrel
    have c0 := (cell_blk h1 0).1; have c1 := (cell_blk h1 1).1
    have H1 := Lib.hid h1; have H2 := Lib.hid h2; have H3 := Lib.hid h3
    clear h1 h2 h3 hv
    by_cases hlt : k < 1
    · obtain rfl : k = 0 := by omega
      go_wp2_with fail
      refine (rhas_one b r _ H2.out).mono ?_
      rintro e w2 ⟨rfl, hb⟩
      have H4 := Lib.hid ((hb.block V (Array.getElem?_eq_some_iff.1 H1.out).1).trans H1.out)
      have H5 := Lib.hid ((hb.block b (Array.getElem?_eq_some_iff.1 H2.out).1).trans H2.out)
      have H6 := Lib.hid (H3.out.trans (hb.mono H3.out.size))
      clear hb c0 c1 hlt hk
      go_wp2_with fail
      go_roundw
      case rel => exact ⟨1, by omega, by go_num, H4.out, H5.out, H6.out⟩
      case measure => simp [intOf]
    · go_wp2_with fail
      go_ret
      exact ⟨rfl, H3.out⟩
theorem copy_one (x : World) (O b : Nat) (sc : Nat) (u v : ByteArray) (hO : x.heap[O]? = some (.cells #[.string u] 9 (0, 0))) (hb : x.cell? ⟨b, 0, none⟩ = some (.string v)) (ty : TypeId) :
    (Builtin.copy_ #[106, 106] ty #[.slice (some ⟨O, 0, none⟩) 1 1, .slice (some ⟨b, 0, none⟩) 1 sc]).run Tryz.prog x = .ok (goInt 1) (x.setRow O #[.string v]) := by
  obtain ⟨i0, hi, hz0, hz1, hz2⟩ := info_parts Tryz.infoString
  have h := run_copy_row Tryz.prog x 106 106 ty 9 O 0 1 1 ⟨b, 0, none⟩ 1 sc #[.string u] 9 [.string v] Tryz.underlying106 (by rw [hi]; simp [hz1]) hO rfl
    (fun j v' hj => by
      have hjl : j < 1 := (List.getElem?_eq_some_iff.1 hj).1
      obtain rfl : j = 0 := by omega
      simp at hj
      rw [addr_add, hb, hj]) (by simp) (fun v hv => by simp at hv; subst hv; rfl)
  exact h
theorem setRow_at {x : World} {O : Nat} {c : Array Value} {T : TypeId} (h : x.heap[O]? = some (.cells c T (0, 0))) (d : Array Value) : (x.setRow O d).heap[O]? = some (.cells d T (0, 0)) := setRow_heap _ _ _ _ _ _ h
theorem heap_far_one {x : World} {B R o : Nat} (hne : B ≠ R) (u : Value) : (x.setCell ⟨R, o, none⟩ u).heap[B]? = x.heap[B]? := Below.heap_setCell _ ⟨R, o, none⟩ _ _ hne
def DocOne (w : World) (s : ByteArray) (r : Int) (e : Ending) (w' : World) : Prop := ∃ b, e = .returned (docV (some ⟨b, 0, none⟩) 1 1 r) ∧ w'.heap[b]? = some (.cells #[.string s] 9 (0, 0)) ∧ Below w.heap.size w w'
set_option maxHeartbeats 1000000 in
theorem rwith_one (b q : Nat) (qc : Nat) (r : Int) (s : ByteArray) (w : World) (hb : w.heap[b]? = some (.cells #[.string ⟨#[]⟩] 9 (0, 0))) (hq : w.cell? ⟨q, 0, none⟩ = some (.string s)) :
    Calls Tryz.prog 86 #[docV (some ⟨b, 0, none⟩) 1 1 r, .int .i64 0, .slice (some ⟨q, 0, none⟩) 1 qc] w (DocOne w s r) := by
  have HMK : ∀ w : World, (Instr.makeSlice 106 (.int .i64 1) (.int .i64 1)).run Tryz.prog w = .ok (.slice (some ⟨w.heap.size, 0, none⟩) 1 1) (w.alloc (.cells #[.string ⟨#[]⟩] 9)) := fun w => run_strs 1 (by omega) w
  have HB := Lib.hid hb; have HQ := Lib.hid hq
  clear hb hq
  go_enter Tryz.func86, Tryz.ntmps86
  go_upto_region 2 with fail
  have hsz : ((((w.alloc (.cells #[.slice (some ⟨b, 0, none⟩) 1 1, .int .i64 r] 108)).alloc (.cells #[.slice none 0 0, .int .i64 0] 108)).alloc (.cells #[.string ⟨#[]⟩] 9))).heap.size = w.heap.size + 3 := by simp
  have BL : Below w.heap.size w ((((w.alloc (.cells #[.slice (some ⟨b, 0, none⟩) 1 1, .int .i64 r] 108)).alloc (.cells #[.slice none 0 0, .int .i64 0] 108)).alloc (.cells #[.string ⟨#[]⟩] 9))) := (below2 w _ _).alloc (by simp; omega) _
  obtain ⟨h4a, h4b, h4c⟩ := three_new w #[.slice (some ⟨b, 0, none⟩) 1 1, .int .i64 r] #[.slice none 0 0, .int .i64 0] #[.string ⟨#[]⟩] 108 108 9
  obtain ⟨x, hx⟩ : ∃ x, ((((w.alloc (.cells #[.slice (some ⟨b, 0, none⟩) 1 1, .int .i64 r] 108)).alloc (.cells #[.slice none 0 0, .int .i64 0] 108)).alloc (.cells #[.string ⟨#[]⟩] 9))) = x := ⟨_, rfl⟩
  rw [hx] at BL h4a h4b h4c hsz ⊢
  clear hx
  have hxb := (BL.block b (Array.getElem?_eq_some_iff.1 HB.out).1).trans HB.out
  have hlb := (Array.getElem?_eq_some_iff.1 HB.out).1
  have hxq : x.cell? ⟨q, 0, none⟩ = some (.string s) := by
    rw [BL.cell (p := ⟨q, 0, none⟩) (World.block_lt_of_cell? _ _ HQ.out)]; exact HQ.out
  have hlq := World.block_lt_of_cell? _ _ HQ.out
  obtain ⟨V, hV⟩ : ∃ V, w.heap.size = V := ⟨_, rfl⟩
  rw [hV] at h4a h4b h4c hsz hlb hlq ⊢
  have HCP1 : ∀ ty, (Builtin.copy_ #[106, 106] ty #[.slice (some ⟨V + 1 + 1, 0, none⟩) 1 1, .slice (some ⟨b, 0, none⟩) 1 1]).run Tryz.prog x = .ok (goInt 1) (x.setRow (V + 1 + 1) #[.string ⟨#[]⟩]) := fun ty => copy_one x _ _ _ _ _ h4c ((cell_blk hxb 0).1) ty
  have h5 := setRow_at h4c #[.string ⟨#[]⟩]
  have hq5 : (x.setRow (V + 1 + 1) #[.string ⟨#[]⟩]).cell? ⟨q, 0, none⟩ = some (.string s) := by
    rw [← hxq]; unfold World.cell?; rw [setRow_other _ _ _ _ (by show q ≠ V + 1 + 1; have : q < V := hlq; omega)]
  have HCP2 : ∀ ty, (Builtin.copy_ #[106, 106] ty #[.slice (some ⟨V + 1 + 1, 0, none⟩) 1 1, .slice (some ⟨q, 0, none⟩) 1 qc]).run Tryz.prog (x.setRow (V + 1 + 1) #[.string ⟨#[]⟩]) = .ok (goInt 1) ((x.setRow (V + 1 + 1) #[.string ⟨#[]⟩]).setRow (V + 1 + 1) #[.string s]) := fun ty => copy_one _ _ _ _ _ _ h5 hq5 ty
  have hA6 : ((x.setRow (V + 1 + 1) #[.string ⟨#[]⟩]).setRow (V + 1 + 1) #[.string s]).heap[V]? = some (.cells #[.slice (some ⟨b, 0, none⟩) 1 1, .int .i64 r] 108 (0, 0)) := by
    rw [setRow_other _ _ _ _ (by omega), setRow_other _ _ _ _ (by omega)]; exact h4a
  have c0 := (cell_blk h4a 0).1; have c1 := (cell_blk h4a 1).1
  have HV := Lib.hid hV
  have HX := Lib.hid (And.intro BL (And.intro h4b (And.intro h4c (And.intro h5 hA6))))
  clear hV BL h4a h4b h4c h5 hxb hlb hxq hlq hq5 hsz hA6
  go_upto_region 4 with fail
  obtain ⟨y, hy⟩ : ∃ y, (x.setRow (V + 1 + 1) #[.string ⟨#[]⟩]).setRow (V + 1 + 1) #[.string s] = y := ⟨_, rfl⟩
  obtain ⟨BL, h4b, h4c, h5, hA6⟩ := HX.out
  have hB6 : y.heap[V + 1]? = some (.cells #[.slice none 0 0, .int .i64 0] 108 (0, 0)) := by
    rw [← hy, setRow_other _ _ _ _ (by omega), setRow_other _ _ _ _ (by omega)]; exact h4b
  have hC6 : y.heap[V + 1 + 1]? = some (.cells #[.string s] 9 (0, 0)) := by rw [← hy]; exact setRow_at h5 _
  have BY : Below w.heap.size w y := by
    rw [← hy]; exact below_setRow (below_setRow BL (by have := HV.out; omega) _) (by have := HV.out; omega) _
  rw [hy] at hA6 ⊢
  have a0 := (cell_blk hA6 0).1; have a1 := (cell_blk hA6 1).1
  have e0 := (cell_blk hB6 0).1; have e1 := (cell_blk hB6 1).1
  have f0 := (cell_blk hA6 0).2; have f1 := (cell_blk hB6 0).2; have f2 := (cell_blk hB6 1).2
  have HY := Lib.hid (And.intro BY (And.intro hA6 (And.intro hB6 hC6)))
  clear hy c0 c1 HCP1 HCP2 HX BL h4b h4c h5 hA6 hB6 hC6 BY HMK
  go_wp2_with fail
  have hz := pair_set ((heap_far_one (x := y) (R := V) (o := 0) (show V + 1 ≠ V by omega) (.slice (some ⟨V + 1 + 1, 0, none⟩) 1 1)).trans HY.out.2.2.1) rfl (.slice (some ⟨V + 1 + 1, 0, none⟩) 1 1) (.int .i64 r)
  have g0 := (cell_blk hz 0).1; have g1 := (cell_blk hz 1).1
  have hV := HV.out
  refine bodyPost_ret (v := docV (some ⟨V + 1 + 1, 0, none⟩) 1 1 r) (by simp [results, Tryz.results86, go_sem, g0, g1]) rfl ⟨V + 1 + 1, rfl, ?_, ?_⟩
  · rw [heap_far2 (by omega), heap_far_one (by omega)]; exact HY.out.2.2.2
  · exact ((HY.out.1.setCell (p := ⟨V, 0, none⟩) (by show _ ≤ V; omega) _).setCell (p := ⟨V + 1, 0, none⟩) (by show _ ≤ V + 1; omega) _).setCell (p := ⟨V + 1, 1, none⟩) (by show _ ≤ V + 1; omega) _
end Go.Proofs.YtmnhpmgffhpoeaaGreat.Bt
