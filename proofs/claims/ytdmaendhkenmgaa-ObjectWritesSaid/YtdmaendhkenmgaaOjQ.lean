/- Several texts in one: ChF; OjE; OjF; OjG; OjH; OjI; OjJ. -/
import Derived.Test.YtdmaendhkenmgaaChP
import Derived.Test.YtdmaendhkenmgaaOjP
import Derived.Test.YtdmaendhkenmgaaDcP
import Derived.Lib.SmallJoins
import Derived.Deep.Slices
import Derived.Deep.Strs
import Derived.ChangeSame
import Derived.OpenShut
import Derived.WideShapes
/- ChunkAlone: only a header's bytes are turned. -/
namespace Go.Proofs.Ytdmaendhkenmgaa.Bt
open Go Go.RowKit Go.Shelf
set_option linter.unusedVariables false
set_option linter.unusedSimpArgs false

theorem strL_cut {l l' : List UInt8} (hl : l.length = l'.length) {i j : Nat} (h : ∀ k, i ≤ k → k < j → l.getD k 0 = l'.getD k 0) : (strL l).extract i j = (strL l').extract i j := by
  apply ByteArray.ext
  rw [ByteArray.data_extract, ByteArray.data_extract]
  show (l.toArray).extract i j = (l'.toArray).extract i j
  apply Array.ext_getElem?
  intro k
  rw [Array.getElem?_extract, Array.getElem?_extract]
  simp only [List.size_toArray, List.getElem?_toArray]
  rw [hl]
  by_cases hk : k < min j l'.length - i
  · rw [if_pos hk, if_pos hk]
    have h2 := h (i + k) (by omega) (by omega)
    rw [List.getD_eq_getElem?_getD, List.getD_eq_getElem?_getD] at h2
    rw [List.getElem?_eq_getElem (by omega), List.getElem?_eq_getElem (by omega)] at h2 ⊢
    simpa using h2
  · rw [if_neg hk, if_neg hk]
theorem bytes_cut (m m' : Nat → UInt8) (n i j : Nat) (hj : j ≤ n) (h : ∀ k, i ≤ k → k < j → m k = m' k) : (strL (getM m 0 n)).extract i j = (strL (getM m' 0 n)).extract i j :=
  strL_cut (by rw [getM_length, getM_length]) fun k h1 h2 => by rw [getM_get _ _ _ _ (by omega), getM_get _ _ _ _ (by omega), Nat.zero_add]; exact h k h1 h2
theorem getM_fill (m : Nat → UInt8) (a n : Nat) (y : UInt8) : getM (putM m a (List.replicate n y)) a n = List.replicate n y := by
  have := getM_putM m a (List.replicate n y)
  rwa [List.length_replicate] at this
section
variable {A : Nat} {s : ASt} {w : World}
end
def s2 (m : Nat → UInt8) : ASt := fullS 2 m
theorem there2 (m : Nat → UInt8) (a k : Int) : thereE (fullS 2 m).L (fullS 2 m).es a k = if 0 ≤ a ∧ 0 ≤ k ∧ a + k ≤ 8192 then 0 else 3 := by
  show thereE 2 [0, 2] a k = _
  rw [thereE_full (by omega) (by omega)]; rfl
/-- the variables of the last line -/
def LS (C D : Nat) (a o u x : Int) (X : World) : Prop :=
  X.cell? ⟨C, 0, none⟩ = some (.int .i64 a) ∧ X.cell? ⟨C, 1, none⟩ = some (.int .i64 o) ∧ X.cell? ⟨C, 2, none⟩ = some (.int .u64 u) ∧ X.cell? ⟨C, 3, none⟩ = some (.int .i64 x) ∧
  X.cell? ⟨D, 0, none⟩ = some (.int .i64 a) ∧ X.cell? ⟨D, 1, none⟩ = some (.int .i64 o) ∧ X.cell? ⟨D, 2, none⟩ = some (.int .u64 u) ∧ X.cell? ⟨D, 3, none⟩ = some (.int .i64 x) ∧ CB C a o u x X ∧ CB D a o u x X
theorem ls_mk {C D : Nat} {a o u x : Int} {X : World} (h : CB C a o u x X) (k : CB D a o u x X) : LS C D a o u x X :=
  ⟨h.all.1, h.all.2.1, h.all.2.2.1, h.all.2.2.2, k.all.1, k.all.2.1, k.all.2.2.1, k.all.2.2.2, h, k⟩
theorem LS.below {C D : Nat} {a o u x : Int} {X Y : World} (h : LS C D a o u x X) (hb : Below X.heap.size X Y) : LS C D a o u x Y :=
  ls_mk (blk_at hb h.2.2.2.2.2.2.2.2.1) (blk_at hb h.2.2.2.2.2.2.2.2.2)
end Go.Proofs.Ytdmaendhkenmgaa.Bt
/- An object's header: where it stands, how it is laid and read. (Written by gen_oje.py.) -/
namespace Go.Proofs.Ytdmaendhkenmgaa.Bt
open Go Go.RowKit Go.Shelf
set_option linter.unusedVariables false
set_option linter.unusedSimpArgs false

def F2 : Nat → Nat := fP [8, 8] 2
theorem F2_at : F2 0 = 0 ∧ F2 1 = 8 ∧ F2 2 = 16 := by decide
theorem rec2 : Rec 2 F2 := rec_fP rfl (by decide) (by decide)
theorem ok2 : okV [8, 8] = .tuple #[.agg (recC 2 F2), .int .i64 0] := rfl
/-- an object, and its variable -/
def oC (a z p : Int) : Array Value := #[.int .i64 a, .int .i64 z, .int .i64 p]
def oV (a z p : Int) : Value := .agg #[.int .i64 a, .int .i64 z, .int .i64 p]
def ObjB (B : Nat) (a z p : Int) (w : World) : Prop := w.heap[B]? = some (.cells (oC a z p) 66 (0, 0))
theorem ob_new (w : World) (a z p : Int) : ObjB w.heap.size a z p (w.alloc (.cells (oC a z p) 66)) := heap_new _ _
theorem ObjB.all {B : Nat} {a z p : Int} {w : World} (h : ObjB B a z p w) : w.cell? ⟨B, 0, none⟩ = some (.int .i64 a) ∧ w.cell? ⟨B, 1, none⟩ = some (.int .i64 z) ∧ w.cell? ⟨B, 2, none⟩ = some (.int .i64 p) :=
  ⟨(cell_blk h 0).1, (cell_blk h 1).1, (cell_blk h 2).1⟩
theorem Try.infoObj : (Try.prog.info? 66).map (·.size) = some 3 := by kernel_rfl
theorem oC_size (a z p : Int) : (oC a z p).size = 3 := rfl
theorem oC_one (a z p : Int) : (oC a z p).all (·.oneCell') = true := by simp [oC, Value.oneCell']
def woM (m : Nat → UInt8) (an : Nat) (z p : Int) : Nat → UInt8 := putR m an F2 [z, p] 2
def n2 (m : Nat → UInt8) (an k : Nat) : Int := (numV m (an + 8 * k) 8 : Nat)
theorem allV_n2 (s : ASt) (an k : Nat) (hk : k < 2) : allV s an F2 k = n2 s.mm an k := by
  unfold allV n2
  have h := F2_at
  have : k = 0 ∨ k = 1 := by omega
  rcases this with rfl | rfl <;> simp [h.1, h.2.1, h.2.2]
theorem n2_wo (m : Nat → UInt8) (an k : Nat) (z p : Int) (hk : k < 2) : n2 (woM m an z p) an k = (((([z, p] : List Int).getD k 0).toNat % 18446744073709551616 : Nat) : Int) := by
  unfold n2 woM
  have h := put_val rec2 m an [z, p] 2 (Nat.le_refl _) k hk
  have hF := F2_at
  have e1 : F2 k = 8 * k ∧ F2 (k + 1) - F2 k = 8 := by
    have : k = 0 ∨ k = 1 := by omega
    rcases this with rfl | rfl <;> simp [hF.1, hF.2.1, hF.2.2]
  rw [e1.2, e1.1] at h
  rw [h]
theorem woM_out (m : Nat → UInt8) (an : Nat) (z p : Int) (i : Nat) (h : i < an ∨ an + 16 ≤ i) : woM m an z p i = m i := by
  have hF := F2_at
  unfold woM
  have key : ∀ j, j ≤ 2 → putR m an F2 [z, p] j i = m i := by
    intro j
    induction j with
    | zero => intro _; rfl
    | succ j ih =>
      intro hj
      show putM (putR m an F2 [z, p] j) (an + F2 j) (numB (([z, p] : List Int).getD j 0) (F2 (j + 1) - F2 j)) i = m i
      have : j = 0 ∨ j = 1 := by omega
      rw [putM_out _ _ _ (by rw [numB_length]; rcases this with rfl | rfl <;> simp only [hF.1, hF.2.1, hF.2.2, Nat.zero_add] <;> omega)]
      exact ih (by omega)
  exact key 2 (Nat.le_refl _)
def rdZ (m : Nat → UInt8) (an : Nat) : Int := wrap64 (n2 m an 0)
def rdP (m : Nat → UInt8) (an : Nat) : Int := wrap64 (n2 m an 1)
theorem rd_wo (m : Nat → UInt8) (an : Nat) (z p : Int) (hz : 0 ≤ z ∧ z ≤ 9223372036854775807) (hp : 0 ≤ p ∧ p ≤ 9223372036854775807) : rdZ (woM m an z p) an = z ∧ rdP (woM m an z p) an = p := by
  have e0 := n2_wo m an 0 z p (by omega)
  have e1 := n2_wo m an 1 z p (by omega)
  have g0 : ([z, p] : List Int).getD 0 0 = z := rfl
  have g1 : ([z, p] : List Int).getD 1 0 = p := rfl
  rw [g0, nat_in (by omega)] at e0
  rw [g1, nat_in (by omega)] at e1
  unfold rdZ rdP
  rw [e0, e1, IntWalk.wrap64_in z ⟨by omega, by omega⟩, IntWalk.wrap64_in p ⟨by omega, by omega⟩]
  exact ⟨rfl, rfl⟩
theorem addr_ho (an : Nat) : addrV an 16 0 (F2 2 : Nat) = an := by
  unfold addrV; rw [F2_at.2.2]; rw [if_pos (by omega)]; omega
theorem ho_ns {w : World} (z p : Int) : NsAt (w.alloc (.cells #[.int .u64 z, .int .u64 p] 34)) (some ⟨w.heap.size, 0, none⟩) [z, p] := by
  refine .inr ⟨w.heap.size, 0, rfl, by simp, fun i hi => ?_⟩
  rw [(cell_blk (heap_new w _) _).1, Nat.zero_add]
  have : i = 0 ∨ i = 1 := by simp at hi; omega
  rcases this with rfl | rfl <;> rfl
theorem ho_bd (z p : Int) (hz : 0 ≤ z ∧ z ≤ 9223372036854775807) (hp : 0 ≤ p ∧ p ≤ 9223372036854775807) (k : Nat) (hk : k < 2) : 0 ≤ ([z, p] : List Int).getD k 0 ∧ ([z, p] : List Int).getD k 0 < 18446744073709551616 := by
  have : k = 0 ∨ k = 1 := by omega
  rcases this with rfl | rfl
  · show 0 ≤ z ∧ z < _; omega
  · show 0 ≤ p ∧ p < _; omega
theorem ho_short (z p : Int) (hb : ∀ k, k < 2 → 0 ≤ ([z, p] : List Int).getD k 0 ∧ ([z, p] : List Int).getD k 0 < 18446744073709551616) : allShort F2 [z, p] 2 := fun k hk => by
  have hF := F2_at
  have e1 : F2 (k + 1) - F2 k = 8 := by
    have : k = 0 ∨ k = 1 := by omega
    rcases this with rfl | rfl <;> simp [hF.1, hF.2.1, hF.2.2]
  have := hb k hk
  generalize ([z, p] : List Int).getD k 0 = y at *
  rw [e1]
  unfold longB
  have : y / 2 ^ (8 * 8) = 0 := by
    have : (2 : Int) ^ (8 * 8) = 18446744073709551616 := by decide
    rw [this]; omega
  rw [this]; rfl
set_option maxRecDepth 100000 in
theorem ohead_any (w : World) : Calls Try.prog 90 #[] w (Gives (.agg (recC 2 F2)) w) := by
  have HSZ : Hid (∀ f, (Try.prog.info? 136).map (·.size) = some (recC 2 f).size) := Lib.hid (fun f => by rw [recC_size]; exact Try.infoRec)
  have HX := Lib.hid ok2
  go_enter Try.func90, Try.ntmps90
  go_upto_region 1 with fail
  obtain ⟨x, hx⟩ : ∃ x, w.alloc (.cells rec0 136) = x := ⟨_, rfl⟩
  have hR : x.heap[w.heap.size]? = some (.cells rec0 136 (0, 0)) := by rw [← hx]; exact heap_new _ _
  have bx : Below w.heap.size w x := by rw [← hx]; exact bel1 _ _
  change Code.wp _ _ _ _ (w.alloc (.cells rec0 136))
  rw [hx]
  obtain ⟨R, hRR⟩ : ∃ R, w.heap.size = R := ⟨_, rfl⟩
  rw [hRR] at hR ⊢
  have HR := Lib.hid hR; have BX := Lib.hid bx; have HRR := Lib.hid (show w.heap.size ≤ R by omega)
  clear hR bx hx hRR
  go_wp2_with fail
  have hws : WsAt (x.alloc (.cells #[.int .i64 8, .int .i64 8] 3)) (some ⟨x.heap.size, 0, none⟩) [8, 8] := by
    refine .inr ⟨x.heap.size, 0, rfl, by simp, fun i hi => ?_⟩
    rw [(cell_blk (heap_new x _) _).1, Nat.zero_add]
    have : i = 0 ∨ i = 1 := by simp at hi; omega
    rcases this with rfl | rfl <;> rfl
  refine (of_in _ 2 2 [8, 8] rfl (by omega) (by omega) _ hws).mono ?_
  rintro e w1 ⟨rfl, hb⟩
  rw [HX.out]
  have b1 := (bel1 x (.cells #[.int .i64 8, .int .i64 8] 3)).trans (hb.mono (by simp))
  have HR1 := Lib.hid (blk_at b1 HR.out)
  have B1 := Lib.hid (BX.out.trans (b1.mono BX.out.size))
  clear hws hb b1 HR BX
  go_upto_region 2 with (refine wpList_store_row rfl 136 (.tmp 1) (.tmp 6) rfl w1.heap.size (recC 2 F2) rfl rfl 136 rec0 (heap_new _ _) (HSZ.out _) (by rw [rec0_size, recC_size]) (rec_one _ _) ?_; simp only [Act.put, List.setIfInBounds_toArray, List.set_cons_zero, List.set_cons_succ])
  obtain ⟨y, hy⟩ : ∃ y, (w1.alloc (.cells rec0 136)).setRow w1.heap.size (recC 2 F2) = y := ⟨_, rfl⟩
  obtain ⟨R1, hR1⟩ : ∃ B, w1.heap.size = B := ⟨_, rfl⟩
  have hv : y.heap[R1]? = some (.cells (recC 2 F2) 136 (0, 0)) := by rw [← hy, ← hR1]; exact setRow_ad (heap_new _ _) _
  have by_ : Below w.heap.size w y := by rw [← hy]; exact below_setRow (B1.out.alloc B1.out.size _) B1.out.size _
  have hr : y.heap[R]? = some (.cells rec0 136 (0, 0)) := by
    have hlt := (Array.getElem?_eq_some_iff.1 HR1.out).1
    rw [← hy, setRow_other _ _ _ _ (by omega)]
    exact (Below.heap_alloc _ _ _ hlt).trans HR1.out
  change Code.wp _ _ _ _ ((w1.alloc (.cells rec0 136)).setRow w1.heap.size (recC 2 F2))
  rw [hy, hR1]
  have HV := Lib.hid hv; have BY := Lib.hid by_; have HR2 := Lib.hid hr
  clear hv by_ hy hR1 hr B1 HR1
  go_wp2_with (first | (refine wpList_load_row rfl 136 (.tmp 1) rfl R1 rfl 136 (recC 2 F2) (0, 0) _ HV.out Try.underlying136 rfl (HSZ.out _) ?_) | (refine wpList_store_row rfl 136 (.tmp 0) (.tmp 8) rfl R (recC 2 F2) rfl rfl 136 rec0 HR2.out (HSZ.out _) (by rw [rec0_size, recC_size]) (rec_one _ _) ?_))
  have hl := run_loadVar_row (P := Try.prog) (y.setRow R (recC 2 F2)) R 136 136 (recC 2 F2) (0, 0) _ (setRow_ad HR2.out _) Try.underlying136 rfl (HSZ.out _)
  exact bodyPost_ret (v := .agg (recC 2 F2)) (by simp [results, Try.results90, asAddr, hl, Act.put]) rfl ⟨rfl, below_setRow BY.out HRR.out _⟩
section
variable {A : Nat} {s : ASt} {w : World}
def vwZ (A : Nat) (a : Int) (e : Int) : Array Value := if e = 0 then #[.pointer (some ⟨A, 0, none⟩), .int .i64 a, .int .i64 16] else #[.pointer none, .int .i64 0, .int .i64 0]
theorem vwZ_eq (A : Nat) (a e : Int) : ofV (some ⟨A, 0, none⟩) a 16 e = .agg (vwZ A a e) := by unfold vwZ ofV; split <;> rfl
theorem vwZ_size (A : Nat) (a e : Int) : (vwZ A a e).size = 3 := by unfold vwZ; split <;> rfl
theorem vwZ_one (A : Nat) (a e : Int) : (vwZ A a e).all (·.oneCell') = true := by unfold vwZ; split <;> simp [Value.oneCell']
theorem Try.infoVw : (Try.prog.info? 55).map (·.size) = some 3 := by kernel_rfl
theorem oahead_any (h : On A s w) (a : Int) (ha : 16 ≤ a ∧ a ≤ 9223372036854775807) :
    Calls Try.prog 89 #[.pointer (some ⟨A, 0, none⟩), .int .i64 a] w (Gives (.tuple #[ofV (some ⟨A, 0, none⟩) (a - 16) 16 (thereE s.L s.es (a - 16) 16), .int .i64 (thereE s.L s.es (a - 16) 16)]) w) := by
  have q : wrap64 (a - 16) = a - 16 := IntWalk.wrap64_in _ ⟨by omega, by omega⟩
  have HO := Lib.hid h
  have HOF := Lib.hid (fun (y : World) (hy : On A s y) => on_of hy (a - 16) 16 (by omega))
  obtain ⟨T, hT⟩ : ∃ T, thereE s.L s.es (a - 16) 16 = T := ⟨_, rfl⟩
  rw [hT] at HOF ⊢
  rw [vwZ_eq] at HOF ⊢
  have HVS := Lib.hid (vwZ_size A (a - 16) T)
  have HV1 := Lib.hid (vwZ_one A (a - 16) T)
  obtain ⟨c, hc⟩ : ∃ c, vwZ A (a - 16) T = c := ⟨_, rfl⟩
  rw [hc] at HOF HVS HV1 ⊢
  have HSZ : Hid (∀ d : Array Value, d.size = 3 → (Try.prog.info? 55).map (·.size) = some d.size) := Lib.hid (fun d hd => by rw [hd]; exact Try.infoVw)
  have HR := Lib.hid (heap_new w (.cells #[.pointer none, .int .i64 0, .int .i64 0] 55))
  have HB := Lib.hid (bel1 w (.cells #[.pointer none, .int .i64 0, .int .i64 0] 55))
  clear h hT hc ha
  go_enter Try.func89, Try.ntmps89
  go_upto_region 1 with fail
  obtain ⟨x, hx⟩ : ∃ x, w.alloc (.cells #[.pointer none, .int .i64 0, .int .i64 0] 55) = x := ⟨_, rfl⟩
  obtain ⟨R, hRR⟩ : ∃ R, w.heap.size = R := ⟨_, rfl⟩
  rw [hx] at HR HB
  rw [hRR] at HR
  change Code.wp _ _ _ _ (w.alloc (.cells #[.pointer none, .int .i64 0, .int .i64 0] 55))
  rw [hx, hRR]
  have HRR := Lib.hid (show w.heap.size ≤ R by omega)
  have HOX := Lib.hid (HO.out.below HB.out)
  clear hx hRR HO
  go_wp2_with fail
  refine (HOF.out _ HOX.out).mono ?_
  rintro e w2 ⟨rfl, hb⟩
  have HB2 := Lib.hid (HB.out.trans (hb.mono HB.out.size))
  have HR2 := Lib.hid (show w2.heap[R]? = some (.cells #[.pointer none, .int .i64 0, .int .i64 0] 55 (0, 0)) from blk_at hb HR.out)
  clear hb HR HB HOX
  go_wp2_with (first | (refine wpList_store_row rfl 55 (.tmp 4) (.tmp 10) rfl R c rfl rfl 55 #[.pointer none, .int .i64 0, .int .i64 0] HR2.out (HSZ.out _ HVS.out) (by rw [HVS.out]; rfl) HV1.out ?_))
  have hl := run_loadVar_row (P := Try.prog) (w2.setRow R c) R 55 55 c (0, 0) _ (setRow_ad HR2.out _) Try.underlying55 rfl (HSZ.out _ HVS.out)
  exact bodyPost_ret (v := .tuple #[.agg c, .int .i64 T]) (by simp [results, Try.results89, asAddr, hl, Act.put]) rfl ⟨rfl, below_setRow HB2.out HRR.out _⟩
end
end Go.Proofs.Ytdmaendhkenmgaa.Bt
/- An object's header written. (Written by gen_ojf.py.) -/
namespace Go.Proofs.Ytdmaendhkenmgaa.Bt
open Go Go.RowKit Go.Shelf
set_option linter.unusedVariables false
set_option linter.unusedSimpArgs false

theorem owr_nil (a z p : Int) (w : World) : Calls Try.prog 33 #[.pointer none, oV a z p] w (Gives (.int .i64 1) w) := by
  go_enter Try.func33, Try.ntmps33
  go_upto_region 1 with fail
  have c := ob_new w a z p
  have bw := Lib.hid (bel1 w (.cells (oC a z p) 66))
  obtain ⟨y0, hy⟩ : ∃ y, w.alloc (.cells (oC a z p) 66) = y := ⟨_, rfl⟩
  obtain ⟨B, hB⟩ : ∃ B, w.heap.size = B := ⟨_, rfl⟩
  rw [hy] at c bw
  rw [hB] at c
  change Code.wp _ _ _ _ (w.alloc (.cells (oC a z p) 66))
  rw [hy, hB]
  clear hy hB
  obtain ⟨c0, c1, c2⟩ := c.all
  have c := Lib.hid c
  go_wp2_with fail
  go_ret
  exact ⟨rfl, bw.out⟩
/-- the variables of Write -/
def OWS (B V A : Nat) (a z p : Int) (an : Nat) (X : World) : Prop :=
  X.cell? ⟨B, 0, none⟩ = some (.int .i64 a) ∧ X.cell? ⟨B, 1, none⟩ = some (.int .i64 z) ∧ X.cell? ⟨B, 2, none⟩ = some (.int .i64 p) ∧
  X.cell? ⟨V, 0, none⟩ = some (.pointer (some ⟨A, 0, none⟩)) ∧ X.cell? ⟨V, 1, none⟩ = some (.int .i64 (an : Int)) ∧ X.cell? ⟨V, 2, none⟩ = some (.int .i64 16) ∧ ObjB B a z p X ∧ VC V (some ⟨A, 0, none⟩) an 16 X
theorem ows_mk {B V A : Nat} {a z p : Int} {an : Nat} {X : World} (h : ObjB B a z p X) (k : VC V (some ⟨A, 0, none⟩) an 16 X) : OWS B V A a z p an X :=
  ⟨(cell_blk h 0).1, (cell_blk h 1).1, (cell_blk h 2).1, (cell_blk k 0).1, (cell_blk k 1).1, (cell_blk k 2).1, h, k⟩
theorem OWS.below {B V A : Nat} {a z p : Int} {an : Nat} {X Y : World} (h : OWS B V A a z p an X) (hb : Below X.heap.size X Y) : OWS B V A a z p an Y :=
  ows_mk (blk_at hb h.2.2.2.2.2.2.1) (blk_at hb h.2.2.2.2.2.2.2)
theorem OWS.went {B V A : Nat} {a z p : Int} {an : Nat} {s : ASt} {X Y : World} (h : OWS B V A a z p an X) (ho : On A s X) (hg : Went A X Y) : OWS B V A a z p an Y :=
  ows_mk (hg.keep ho h.2.2.2.2.2.2.1 (by decide) (by decide) (by decide)) (hg.keep ho h.2.2.2.2.2.2.2 (by decide) (by decide) (by decide))
section
variable {A : Nat} {s : ASt} {w : World}
theorem owr_arg (h : On A s w) (a z p : Int) (hm : a < 16 ∨ z < 0 ∨ p < 0) :
    Calls Try.prog 33 #[.pointer (some ⟨A, 0, none⟩), oV a z p] w (Gives (.int .i64 2) w) := by
  clear h
  by_cases h1 : a < 16
  · clear hm
    go_enter Try.func33, Try.ntmps33
    go_upto_region 1 with fail
    have c := ob_new w a z p
    have bw := Lib.hid (bel1 w (.cells (oC a z p) 66))
    obtain ⟨y0, hy⟩ : ∃ y, w.alloc (.cells (oC a z p) 66) = y := ⟨_, rfl⟩
    obtain ⟨B, hB⟩ : ∃ B, w.heap.size = B := ⟨_, rfl⟩
    rw [hy] at c bw
    rw [hB] at c
    change Code.wp _ _ _ _ (w.alloc (.cells (oC a z p) 66))
    rw [hy, hB]
    clear hy hB
    obtain ⟨c0, c1, c2⟩ := c.all
    have c := Lib.hid c
    go_wp2_with fail
    go_ret
    exact ⟨rfl, bw.out⟩
  · by_cases h2 : z < 0
    · clear hm
      go_enter Try.func33, Try.ntmps33
      go_upto_region 1 with fail
      have c := ob_new w a z p
      have bw := Lib.hid (bel1 w (.cells (oC a z p) 66))
      obtain ⟨y0, hy⟩ : ∃ y, w.alloc (.cells (oC a z p) 66) = y := ⟨_, rfl⟩
      obtain ⟨B, hB⟩ : ∃ B, w.heap.size = B := ⟨_, rfl⟩
      rw [hy] at c bw
      rw [hB] at c
      change Code.wp _ _ _ _ (w.alloc (.cells (oC a z p) 66))
      rw [hy, hB]
      clear hy hB
      obtain ⟨c0, c1, c2⟩ := c.all
      have c := Lib.hid c
      go_wp2_with fail
      go_ret
      exact ⟨rfl, bw.out⟩
    · have h3 : p < 0 := by omega
      clear hm
      go_enter Try.func33, Try.ntmps33
      go_upto_region 1 with fail
      have c := ob_new w a z p
      have bw := Lib.hid (bel1 w (.cells (oC a z p) 66))
      obtain ⟨y0, hy⟩ : ∃ y, w.alloc (.cells (oC a z p) 66) = y := ⟨_, rfl⟩
      obtain ⟨B, hB⟩ : ∃ B, w.heap.size = B := ⟨_, rfl⟩
      rw [hy] at c bw
      rw [hB] at c
      change Code.wp _ _ _ _ (w.alloc (.cells (oC a z p) 66))
      rw [hy, hB]
      clear hy hB
      obtain ⟨c0, c1, c2⟩ := c.all
      have c := Lib.hid c
      go_wp2_with fail
      go_ret
      exact ⟨rfl, bw.out⟩
theorem owr_range (h : On A s w) (a z p : Int) (ha : a ≤ 9223372036854775807) (h1 : 16 ≤ a) (h2 : 0 ≤ z) (h3 : 0 ≤ p) (he : thereE s.L s.es (a - 16) 16 ≠ 0) :
    Calls Try.prog 33 #[.pointer (some ⟨A, 0, none⟩), oV a z p] w (Gives (.int .i64 3) w) := by
  have e3 : thereE s.L s.es (a - 16) 16 = 3 := by unfold thereE at he ⊢; split <;> simp_all
  have HA := Lib.hid (fun (y : World) (hy : On A s y) => oahead_any hy a ⟨h1, ha⟩)
  rw [e3, show ofV (some ⟨A, 0, none⟩) (a - 16) 16 3 = .agg #[.pointer none, .int .i64 0, .int .i64 0] from rfl] at HA
  have HO := Lib.hid h
  clear h he e3
  go_enter Try.func33, Try.ntmps33
  go_upto_region 1 with fail
  have c := ob_new w a z p
  have bw := Lib.hid (bel1 w (.cells (oC a z p) 66))
  obtain ⟨y0, hy⟩ : ∃ y, w.alloc (.cells (oC a z p) 66) = y := ⟨_, rfl⟩
  obtain ⟨B, hB⟩ : ∃ B, w.heap.size = B := ⟨_, rfl⟩
  rw [hy] at c bw
  rw [hB] at c
  change Code.wp _ _ _ _ (w.alloc (.cells (oC a z p) 66))
  rw [hy, hB]
  clear hy hB
  obtain ⟨c0, c1, c2⟩ := c.all
  have c := Lib.hid c
  go_wp2_with fail
  refine (HA.out _ (HO.out.below bw.out)).mono ?_
  rintro e w2 ⟨rfl, hb⟩
  have HB2 := Lib.hid (bw.out.trans (hb.mono bw.out.size))
  clear hb
  go_wp2_with fail
  go_ret
  exact ⟨rfl, HB2.out.alloc HB2.out.size _⟩
set_option maxRecDepth 100000 in
set_option maxHeartbeats 4000000 in
theorem owr_ok (h : On A s w) (a z p : Int) (ha : a ≤ 9223372036854775807) (h1 : 16 ≤ a) (hz : 0 ≤ z ∧ z ≤ 9223372036854775807) (hp : 0 ≤ p ∧ p ≤ 9223372036854775807) (he : thereE s.L s.es (a - 16) 16 = 0) :
    Calls Try.prog 33 #[.pointer (some ⟨A, 0, none⟩), oV a z p] w (Ret A { s with mm := woM s.mm (a - 16).toNat z p } (.int .i64 0) w) := by
  have hbd := ho_bd z p hz hp
  have HBD := Lib.hid hbd
  have HSH := Lib.hid (ho_short z p hbd)
  have hh := (there_iff h.good (a - 16) 16).1 (by unfold thereE at he; cases hq : thereB s.L s.es (a - 16) 16 with
    | true => rfl
    | false => rw [hq] at he; cases he)
  have hs := h.good.small
  have HA := Lib.hid (fun (y : World) (hy : On A s y) => oahead_any hy a ⟨h1, ha⟩)
  rw [he] at HA
  obtain ⟨an, han0⟩ := Int.eq_ofNat_of_zero_le (show 0 ≤ a - 16 by omega)
  rw [han0] at he HA ⊢
  rw [show ofV (some ⟨A, 0, none⟩) (an : Int) 16 0 = .agg #[.pointer (some ⟨A, 0, none⟩), .int .i64 an, .int .i64 16] from rfl] at HA
  rw [Int.toNat_natCast]
  have han : an ≤ 4294967296 := by omega
  have HO := Lib.hid h
  have HEA : Hid (thereE s.L s.es (addrV an 16 0 (F2 2 : Nat)) (F2 2 : Nat) = 0) := Lib.hid (by rw [addr_ho, F2_at.2.2]; exact he)
  have Q1 : Hid (IntKind.u64.wrap z = z) := Lib.hid (by rw [IntKind.wrap_u64]; omega)
  have Q2 : Hid (IntKind.u64.wrap p = p) := Lib.hid (by rw [IntKind.wrap_u64]; omega)
  have HNS := Lib.hid (fun y : World => ho_ns (w := y) z p)
  have HLN : Hid (([z, p] : List Int).length = 2) := Lib.hid rfl
  have HWM : Hid ({ s with mm := putR s.mm an F2 [z, p] 2 } = { s with mm := woM s.mm an z p }) := Lib.hid rfl
  obtain ⟨xs, hxs⟩ : ∃ xs : List Int, [z, p] = xs := ⟨_, rfl⟩
  rw [hxs] at HNS HLN HWM HBD HSH
  obtain ⟨sW, hsW⟩ : ∃ y : ASt, { s with mm := woM s.mm an z p } = y := ⟨_, rfl⟩
  rw [hsW] at HWM ⊢
  have h2 := hz.1
  have h3 := hp.1
  clear h he hbd hh hs hxs hsW hz hp han0
  go_enter Try.func33, Try.ntmps33
  go_upto_region 1 with fail
  have c := ob_new w a z p
  have bw := Lib.hid (bel1 w (.cells (oC a z p) 66))
  obtain ⟨y0, hy⟩ : ∃ y, w.alloc (.cells (oC a z p) 66) = y := ⟨_, rfl⟩
  obtain ⟨B, hB⟩ : ∃ B, w.heap.size = B := ⟨_, rfl⟩
  rw [hy] at c bw
  rw [hB] at c
  change Code.wp _ _ _ _ (w.alloc (.cells (oC a z p) 66))
  rw [hy, hB]
  clear hy hB
  obtain ⟨c0, c1, c2⟩ := c.all
  have c := Lib.hid c
  go_wp2_with fail
  refine (HA.out _ (HO.out.below bw.out)).mono ?_
  rintro e w2 ⟨rfl, hb⟩
  have HB2 := Lib.hid (bw.out.trans (hb.mono bw.out.size))
  have HC2 := Lib.hid (show ObjB B a z p w2 from blk_at hb c.out)
  clear hb c0 c1 c2 c
  go_upto_region 8 with fail
  obtain ⟨y, hy⟩ : ∃ y, (w2.alloc (.cells #[.pointer (some ⟨A, 0, none⟩), .int .i64 (an : Int), .int .i64 16] 55)) = y := ⟨_, rfl⟩
  have hlt := (Array.getElem?_eq_some_iff.1 HC2.out).1
  have hv : VC w2.heap.size (some ⟨A, 0, none⟩) an 16 y := by rw [← hy]; exact heap_new _ _
  have hc : ObjB B a z p y := by
    unfold ObjB; rw [← hy]; exact (Below.heap_alloc _ _ _ hlt).trans HC2.out
  have hb : Below w.heap.size w y := by rw [← hy]; exact HB2.out.alloc HB2.out.size _
  change Code.wp _ _ _ _ (w2.alloc (.cells #[.pointer (some ⟨A, 0, none⟩), .int .i64 (an : Int), .int .i64 16] 55))
  rw [hy]
  obtain ⟨V, hV⟩ : ∃ V, w2.heap.size = V := ⟨_, rfl⟩
  rw [hV] at hv ⊢
  have HSY := Lib.hid (ows_mk (p := p) (z := z) (a := a) hc hv)
  have HBY := Lib.hid hb
  have hS0 : OWS B V A a z p an y.drew := (ows_mk hc hv).below (Below.refl _ _).drew
  have HB3 := Lib.hid (show Below w.heap.size w y.drew from hb.drew)
  clear hy hv hc hb hlt hV HB2 HC2
  refine wp_region_held_drew (S := OWS B V A a z p an) (by kernel_rfl) hS0 (fun hHeld => ?_)
  clear hS0
  refine wpAnyH_take (i := 1) (v := (.agg #[.pointer (some ⟨A, 0, none⟩), .int .i64 (an : Int), .int .i64 16])) rfl (by kernel_rfl) (by kernel_rfl) (by kernel_rfl) (fun _ _ _ h => h) (Or.inl ⟨by rfl, fun X hS => ?_⟩) hHeld ?_
  · obtain ⟨s0, s1, s2, s3, s4, s5, s6, s7⟩ := hS
    go_simp
  try simp only [Act.put, List.getElem_toArray, List.getElem_cons_zero, List.getElem_cons_succ, List.setIfInBounds_toArray, List.set_cons_zero, List.set_cons_succ]
  refine wpAnyH_take (i := 2) (v := (.pointer (some ⟨B, 1, none⟩))) rfl (by kernel_rfl) (by kernel_rfl) (by kernel_rfl) (fun _ _ _ h => h) (Or.inl ⟨by rfl, fun X hS => ?_⟩) hHeld ?_
  · obtain ⟨s0, s1, s2, s3, s4, s5, s6, s7⟩ := hS
    go_simp
  try simp only [Act.put, List.getElem_toArray, List.getElem_cons_zero, List.getElem_cons_succ, List.setIfInBounds_toArray, List.set_cons_zero, List.set_cons_succ]
  refine wpAnyH_take (i := 3) (v := (.int .i64 z)) rfl (by kernel_rfl) (by kernel_rfl) (by kernel_rfl) (fun _ _ _ h => h) (Or.inl ⟨by rfl, fun X hS => ?_⟩) hHeld ?_
  · obtain ⟨s0, s1, s2, s3, s4, s5, s6, s7⟩ := hS
    go_simp
  try simp only [Act.put, List.getElem_toArray, List.getElem_cons_zero, List.getElem_cons_succ, List.setIfInBounds_toArray, List.set_cons_zero, List.set_cons_succ]
  refine wpAnyH_take (i := 4) (v := (.int .u64 z)) rfl (by kernel_rfl) (by kernel_rfl) (by kernel_rfl) (fun _ _ _ h => h) (Or.inl ⟨by rfl, fun X hS => ?_⟩) hHeld ?_
  · obtain ⟨s0, s1, s2, s3, s4, s5, s6, s7⟩ := hS
    have q1 := Q1.out
    go_simp
  try simp only [Act.put, List.getElem_toArray, List.getElem_cons_zero, List.getElem_cons_succ, List.setIfInBounds_toArray, List.set_cons_zero, List.set_cons_succ]
  refine wpAnyH_take (i := 5) (v := (.pointer (some ⟨B, 2, none⟩))) rfl (by kernel_rfl) (by kernel_rfl) (by kernel_rfl) (fun _ _ _ h => h) (Or.inl ⟨by rfl, fun X hS => ?_⟩) hHeld ?_
  · obtain ⟨s0, s1, s2, s3, s4, s5, s6, s7⟩ := hS
    go_simp
  try simp only [Act.put, List.getElem_toArray, List.getElem_cons_zero, List.getElem_cons_succ, List.setIfInBounds_toArray, List.set_cons_zero, List.set_cons_succ]
  refine wpAnyH_take (i := 6) (v := (.int .i64 p)) rfl (by kernel_rfl) (by kernel_rfl) (by kernel_rfl) (fun _ _ _ h => h) (Or.inl ⟨by rfl, fun X hS => ?_⟩) hHeld ?_
  · obtain ⟨s0, s1, s2, s3, s4, s5, s6, s7⟩ := hS
    go_simp
  try simp only [Act.put, List.getElem_toArray, List.getElem_cons_zero, List.getElem_cons_succ, List.setIfInBounds_toArray, List.set_cons_zero, List.set_cons_succ]
  refine wpAnyH_take (i := 7) (v := (.int .u64 p)) rfl (by kernel_rfl) (by kernel_rfl) (by kernel_rfl) (fun _ _ _ h => h) (Or.inl ⟨by rfl, fun X hS => ?_⟩) hHeld ?_
  · obtain ⟨s0, s1, s2, s3, s4, s5, s6, s7⟩ := hS
    have q2 := Q2.out
    go_simp
  try simp only [Act.put, List.getElem_toArray, List.getElem_cons_zero, List.getElem_cons_succ, List.setIfInBounds_toArray, List.set_cons_zero, List.set_cons_succ]
  refine wpAnyH_ready (rs := [0, 8]) (by kernel_rfl) (by simp) ?_
  refine AllReadyH.cons rfl (fun K1 hK1 => ?_) (AllReadyH.cons rfl (fun K1 hK1 => ?_) AllReadyH.nil)
  · go_simp
    refine (ohead_any _).mono ?_
    rintro e x1 ⟨rfl, hb1⟩
    have HB4 := Lib.hid (HB3.out.trans (hb1.mono HB3.out.size))
    have hS1 := hHeld.below hb1
    clear hHeld hb1
    refine hK1.out _ _ hS1 (fun hHeld => ?_)
    clear hK1 hS1
    try simp only [Act.put, List.getElem_toArray, List.getElem_cons_zero, List.getElem_cons_succ, List.setIfInBounds_toArray, List.set_cons_zero, List.set_cons_succ]
    refine wpAnyH_ready (rs := [8]) (by kernel_rfl) (by simp) (AllReadyH.cons rfl (fun K2 hK2 => ?_) AllReadyH.nil)
    go_simp
    have hS2 := hHeld.below (bel1 x1 (.cells #[.int .u64 z, .int .u64 p] 34))
    have hNS := HNS.out x1
    have hO1 := HO.out.below HB4.out
    have hMine := Mine.new hO1 (.cells #[.int .u64 z, .int .u64 p] 34)
    have hO2 := hO1.below (bel1 x1 (.cells #[.int .u64 z, .int .u64 p] 34))
    have hW2 := Lib.hid (Went.of_below HO.out (HB4.out.trans ((bel1 x1 (.cells #[.int .u64 z, .int .u64 p] 34)).mono HB4.out.size)))
    obtain ⟨x2, hx2⟩ : ∃ x2, x1.alloc (.cells #[.int .u64 z, .int .u64 p] 34) = x2 := ⟨_, rfl⟩
    obtain ⟨Z, hZ⟩ : ∃ Z, x1.heap.size = Z := ⟨_, rfl⟩
    rw [hx2] at hS2 hNS hMine hO2 hW2 ⊢
    rw [hZ] at hNS hMine ⊢
    clear hHeld hO1 hx2 hZ HB4 HB3
    refine hK2.out _ _ hS2 (fun hHeld => ?_)
    clear hK2 hS2
    try simp only [Act.put, List.getElem_toArray, List.getElem_cons_zero, List.getElem_cons_succ, List.setIfInBounds_toArray, List.set_cons_zero, List.set_cons_succ]
    refine wpAnyH_ready (rs := [9]) (by kernel_rfl) (by simp) (AllReadyH.cons rfl (fun K4 hK4 => ?_) AllReadyH.nil)
    go_simp
    refine (fputn_yes hO2 2 F2 rec2 an 16 han (by omega) (some ⟨Z, 0, none⟩) 2 xs HLN.out hNS HBD.out HSH.out (fun b off e => by cases e; exact hMine.own) an (addr_ho an) HEA.out).mono ?_
    rintro e x4 ⟨rfl, hO4, hG4⟩
    rw [HWM.out] at hO4
    have hS4 := hHeld.went hO2 hG4
    have HF := Lib.hid (And.intro hO4 (hW2.out.trans hG4))
    clear hHeld hO2 hG4 hO4 hW2 hNS hMine
    refine hK4.out _ _ hS4 (fun hHeld => ?_)
    clear hK4 hS4
    try simp only [Act.put, List.getElem_toArray, List.getElem_cons_zero, List.getElem_cons_succ, List.setIfInBounds_toArray, List.set_cons_zero, List.set_cons_succ]
    refine wpAnyH_take (i := 10) (v := (.int .i64 0)) rfl (by kernel_rfl) (by kernel_rfl) (by kernel_rfl) (fun _ _ _ h => h) (Or.inl ⟨by rfl, fun X hS => ?_⟩) hHeld ?_
    · obtain ⟨s0, s1, s2, s3, s4, s5, s6, s7⟩ := hS
      go_simp
    try simp only [Act.put, List.getElem_toArray, List.getElem_cons_zero, List.getElem_cons_succ, List.setIfInBounds_toArray, List.set_cons_zero, List.set_cons_succ]
    refine wpAnyH_done (by kernel_rfl) ?_ _
    go_wp2_with fail
    go_ret
    exact ⟨rfl, HF.out.1, HF.out.2⟩
  · go_simp
    have hO0 := HO.out.below HBY.out
    have hS1 : OWS B V A a z p an (y.alloc (.cells #[.int .u64 z, .int .u64 p] 34)).drew := HSY.out.below (bel1 y (.cells #[.int .u64 z, .int .u64 p] 34)).drew
    have hO1 : On A s (y.alloc (.cells #[.int .u64 z, .int .u64 p] 34)).drew := hO0.below (bel1 y (.cells #[.int .u64 z, .int .u64 p] 34)).drew
    have hNS : NsAt (y.alloc (.cells #[.int .u64 z, .int .u64 p] 34)).drew (some ⟨y.heap.size, 0, none⟩) xs := (HNS.out y).below (Below.refl _ _).drew
    have hMine0 : Mine A y.heap.size (y.alloc (.cells #[.int .u64 z, .int .u64 p] 34)).drew := (Mine.new hO0 (.cells #[.int .u64 z, .int .u64 p] 34)).went (Went.of_below (hO0.below (bel1 y (.cells #[.int .u64 z, .int .u64 p] 34))) (Below.refl _ _).drew)
    have hW1 := Lib.hid (show Went A w (y.alloc (.cells #[.int .u64 z, .int .u64 p] 34)).drew from Went.of_below HO.out (HBY.out.trans ((bel1 y (.cells #[.int .u64 z, .int .u64 p] 34)).drew.mono HBY.out.size)))
    obtain ⟨x1, hx1⟩ : ∃ x1, (y.alloc (.cells #[.int .u64 z, .int .u64 p] 34)).drew = x1 := ⟨_, rfl⟩
    obtain ⟨Z, hZ⟩ : ∃ Z, y.heap.size = Z := ⟨_, rfl⟩
    rw [hx1] at hS1 hNS hMine0 hO1 hW1 ⊢
    rw [hZ] at hNS hMine0 ⊢
    clear hHeld hO0 hx1 hZ HB3 HSY HBY
    refine hK1.out _ _ hS1 (fun hHeld => ?_)
    clear hK1 hS1
    try simp only [Act.put, List.getElem_toArray, List.getElem_cons_zero, List.getElem_cons_succ, List.setIfInBounds_toArray, List.set_cons_zero, List.set_cons_succ]
    refine wpAnyH_ready (rs := [0]) (by kernel_rfl) (by simp) (AllReadyH.cons rfl (fun K2 hK2 => ?_) AllReadyH.nil)
    go_simp
    refine (ohead_any _).mono ?_
    rintro e x2 ⟨rfl, hb2⟩
    have hS2 := hHeld.below hb2
    have hNS2 := hNS.below hb2
    have hO2 := hO1.below hb2
    have hMine := hMine0.went (Went.of_below hO1 hb2)
    have hW2 := Lib.hid (hW1.out.trans (Went.of_below hO1 hb2))
    clear hHeld hNS hO1 hMine0 hW1 hb2
    have hNS := hNS2
    clear hNS2
    refine hK2.out _ _ hS2 (fun hHeld => ?_)
    clear hK2 hS2
    try simp only [Act.put, List.getElem_toArray, List.getElem_cons_zero, List.getElem_cons_succ, List.setIfInBounds_toArray, List.set_cons_zero, List.set_cons_succ]
    refine wpAnyH_ready (rs := [9]) (by kernel_rfl) (by simp) (AllReadyH.cons rfl (fun K4 hK4 => ?_) AllReadyH.nil)
    go_simp
    refine (fputn_yes hO2 2 F2 rec2 an 16 han (by omega) (some ⟨Z, 0, none⟩) 2 xs HLN.out hNS HBD.out HSH.out (fun b off e => by cases e; exact hMine.own) an (addr_ho an) HEA.out).mono ?_
    rintro e x4 ⟨rfl, hO4, hG4⟩
    rw [HWM.out] at hO4
    have hS4 := hHeld.went hO2 hG4
    have HF := Lib.hid (And.intro hO4 (hW2.out.trans hG4))
    clear hHeld hO2 hG4 hO4 hW2 hNS hMine
    refine hK4.out _ _ hS4 (fun hHeld => ?_)
    clear hK4 hS4
    try simp only [Act.put, List.getElem_toArray, List.getElem_cons_zero, List.getElem_cons_succ, List.setIfInBounds_toArray, List.set_cons_zero, List.set_cons_succ]
    refine wpAnyH_take (i := 10) (v := (.int .i64 0)) rfl (by kernel_rfl) (by kernel_rfl) (by kernel_rfl) (fun _ _ _ h => h) (Or.inl ⟨by rfl, fun X hS => ?_⟩) hHeld ?_
    · obtain ⟨s0, s1, s2, s3, s4, s5, s6, s7⟩ := hS
      go_simp
    try simp only [Act.put, List.getElem_toArray, List.getElem_cons_zero, List.getElem_cons_succ, List.setIfInBounds_toArray, List.set_cons_zero, List.set_cons_succ]
    refine wpAnyH_done (by kernel_rfl) ?_ _
    go_wp2_with fail
    go_ret
    exact ⟨rfl, HF.out.1, HF.out.2⟩
end
end Go.Proofs.Ytdmaendhkenmgaa.Bt
/- An object's header read. (Written by gen_ojg.py.) -/
namespace Go.Proofs.Ytdmaendhkenmgaa.Bt
open Go Go.RowKit Go.Shelf
set_option linter.unusedVariables false
set_option linter.unusedSimpArgs false

theorem ord_nil (a : Int) (w : World) : Calls Try.prog 34 #[.pointer none, .int .i64 a] w (Gives (.tuple #[oV 0 0 0, .int .i64 1]) w) := by
  have HR := Lib.hid (ob_new w 0 0 0)
  have HB := Lib.hid (bel1 w (.cells (oC 0 0 0) 66))
  have HSZ : Hid (∀ a z p, (Try.prog.info? 66).map (·.size) = some (oC a z p).size) := Lib.hid (fun a z p => Try.infoObj)
  go_enter Try.func34, Try.ntmps34
  go_upto_region 1 with fail
  obtain ⟨x, hx⟩ : ∃ x, w.alloc (.cells (oC 0 0 0) 66) = x := ⟨_, rfl⟩
  obtain ⟨R, hRR⟩ : ∃ R, w.heap.size = R := ⟨_, rfl⟩
  rw [hx] at HR HB
  rw [hRR] at HR
  change Code.wp _ _ _ _ (w.alloc (.cells (oC 0 0 0) 66))
  rw [hx, hRR]
  have HRR := Lib.hid (show w.heap.size ≤ R by omega)
  clear hx hRR
  go_wp2_with (first | (refine wpList_store_row rfl 66 (.tmp 4) (.tmp 11) rfl R (oC 0 0 0) rfl rfl 66 (oC 0 0 0) HR.out (HSZ.out _ _ _) rfl (oC_one _ _ _) ?_))
  have hl := run_loadVar_row (P := Try.prog) (x.setRow R (oC 0 0 0)) R 66 66 (oC 0 0 0) (0, 0) _ (setRow_ad HR.out _) Try.underlying66 rfl (HSZ.out _ _ _)
  exact bodyPost_ret (v := .tuple #[oV 0 0 0, .int .i64 1]) (by simp [results, Try.results34, asAddr, hl, Act.put]; rfl) rfl ⟨rfl, below_setRow HB.out HRR.out _⟩
/-- the variables of Read -/
def ORS (R V A an : Nat) (X : World) : Prop :=
  X.cell? ⟨V, 0, none⟩ = some (.pointer (some ⟨A, 0, none⟩)) ∧ X.cell? ⟨V, 1, none⟩ = some (.int .i64 (an : Int)) ∧ X.cell? ⟨V, 2, none⟩ = some (.int .i64 16) ∧ ObjB R 0 0 0 X ∧ VC V (some ⟨A, 0, none⟩) an 16 X
theorem ors_mk {R V A an : Nat} {X : World} (h : ObjB R 0 0 0 X) (k : VC V (some ⟨A, 0, none⟩) an 16 X) : ORS R V A an X :=
  ⟨(cell_blk k 0).1, (cell_blk k 1).1, (cell_blk k 2).1, h, k⟩
theorem ORS.below {R V A an : Nat} {X Y : World} (h : ORS R V A an X) (hb : Below X.heap.size X Y) : ORS R V A an Y := ors_mk (blk_at hb h.2.2.2.1) (blk_at hb h.2.2.2.2)
def NB2 (N : Nat) (n0 n1 : Int) (X : World) : Prop := X.heap[N]? = some (.cells #[.int .u64 n0, .int .u64 n1] 34 (0, 0))
def ORN (N : Nat) (n0 n1 : Int) (X : World) : Prop :=
  X.cell? ⟨N, 0, none⟩ = some (.int .u64 n0) ∧ X.cell? ⟨N, 1, none⟩ = some (.int .u64 n1) ∧ NB2 N n0 n1 X
theorem orn_mk {N : Nat} {n0 n1 : Int} {X : World} (k : NB2 N n0 n1 X) : ORN N n0 n1 X :=
  ⟨(cell_blk k 0).1, (cell_blk k 1).1, k⟩
theorem ORN.below {N : Nat} {n0 n1 : Int} {X Y : World} (h : ORN N n0 n1 X) (hb : Below X.heap.size X Y) : ORN N n0 n1 Y := orn_mk (blk_at hb h.2.2)
theorem nb_ne {N R : Nat} {n0 n1 a z p : Int} {X : World} (h : NB2 N n0 n1 X) (k : ObjB R a z p X) : N ≠ R := fun e => by
  subst e
  unfold NB2 at h; unfold ObjB at k
  rw [h] at k
  simp only [Option.some.injEq, Obj.cells.injEq] at k
  exact absurd k.2.1 (by decide)
def ordV (s : ASt) (a : Int) : Value :=
  if a < 16 then .tuple #[oV 0 0 0, .int .i64 2] else if thereE s.L s.es (a - 16) 16 = 0 then .tuple #[oV a (rdZ s.mm (a - 16).toNat) (rdP s.mm (a - 16).toNat), .int .i64 0] else .tuple #[oV 0 0 0, .int .i64 3]
section
variable {A : Nat} {s : ASt} {w : World}
theorem ord_arg (h : On A s w) (a : Int) (h1 : a < 16) :
    Calls Try.prog 34 #[.pointer (some ⟨A, 0, none⟩), .int .i64 a] w (Gives (.tuple #[oV 0 0 0, .int .i64 2]) w) := by
  clear h
  have HR := Lib.hid (ob_new w 0 0 0)
  have HB := Lib.hid (bel1 w (.cells (oC 0 0 0) 66))
  have HSZ : Hid (∀ a z p, (Try.prog.info? 66).map (·.size) = some (oC a z p).size) := Lib.hid (fun a z p => Try.infoObj)
  go_enter Try.func34, Try.ntmps34
  go_upto_region 1 with fail
  obtain ⟨x, hx⟩ : ∃ x, w.alloc (.cells (oC 0 0 0) 66) = x := ⟨_, rfl⟩
  obtain ⟨R, hRR⟩ : ∃ R, w.heap.size = R := ⟨_, rfl⟩
  rw [hx] at HR HB
  rw [hRR] at HR
  change Code.wp _ _ _ _ (w.alloc (.cells (oC 0 0 0) 66))
  rw [hx, hRR]
  have HRR := Lib.hid (show w.heap.size ≤ R by omega)
  clear hx hRR
  go_wp2_with (first | (refine wpList_store_row rfl 66 (.tmp 4) (.tmp 14) rfl R (oC 0 0 0) rfl rfl 66 (oC 0 0 0) HR.out (HSZ.out _ _ _) rfl (oC_one _ _ _) ?_))
  have hl := run_loadVar_row (P := Try.prog) (x.setRow R (oC 0 0 0)) R 66 66 (oC 0 0 0) (0, 0) _ (setRow_ad HR.out _) Try.underlying66 rfl (HSZ.out _ _ _)
  exact bodyPost_ret (v := .tuple #[oV 0 0 0, .int .i64 2]) (by simp [results, Try.results34, asAddr, hl, Act.put]; rfl) rfl ⟨rfl, below_setRow HB.out HRR.out _⟩
theorem ord_range (h : On A s w) (a : Int) (ha : a ≤ 9223372036854775807) (h1 : 16 ≤ a) (he : thereE s.L s.es (a - 16) 16 ≠ 0) :
    Calls Try.prog 34 #[.pointer (some ⟨A, 0, none⟩), .int .i64 a] w (Gives (.tuple #[oV 0 0 0, .int .i64 3]) w) := by
  have e3 : thereE s.L s.es (a - 16) 16 = 3 := by unfold thereE at he ⊢; split <;> simp_all
  have HA := Lib.hid (fun (y : World) (hy : On A s y) => oahead_any hy a ⟨h1, ha⟩)
  rw [e3, show ofV (some ⟨A, 0, none⟩) (a - 16) 16 3 = .agg #[.pointer none, .int .i64 0, .int .i64 0] from rfl] at HA
  have HO := Lib.hid h
  clear h he e3
  have HR := Lib.hid (ob_new w 0 0 0)
  have HB := Lib.hid (bel1 w (.cells (oC 0 0 0) 66))
  have HSZ : Hid (∀ a z p, (Try.prog.info? 66).map (·.size) = some (oC a z p).size) := Lib.hid (fun a z p => Try.infoObj)
  go_enter Try.func34, Try.ntmps34
  go_upto_region 1 with fail
  obtain ⟨x, hx⟩ : ∃ x, w.alloc (.cells (oC 0 0 0) 66) = x := ⟨_, rfl⟩
  obtain ⟨R, hRR⟩ : ∃ R, w.heap.size = R := ⟨_, rfl⟩
  rw [hx] at HR HB
  rw [hRR] at HR
  change Code.wp _ _ _ _ (w.alloc (.cells (oC 0 0 0) 66))
  rw [hx, hRR]
  have HRR := Lib.hid (show w.heap.size ≤ R by omega)
  clear hx hRR
  go_wp2_with fail
  refine (HA.out _ (HO.out.below HB.out)).mono ?_
  rintro e w2 ⟨rfl, hb⟩
  have HB2 := Lib.hid (HB.out.trans (hb.mono HB.out.size))
  have HR2 := Lib.hid (show ObjB R 0 0 0 w2 from blk_at hb HR.out)
  clear hb HR HB
  go_upto_region 6 with fail
  obtain ⟨y, hy⟩ : ∃ y, (w2.alloc (.cells #[.pointer none, .int .i64 0, .int .i64 0] 55)) = y := ⟨_, rfl⟩
  have hlt := (Array.getElem?_eq_some_iff.1 HR2.out).1
  have hc : ObjB R 0 0 0 y := by
    unfold ObjB; rw [← hy]; exact (Below.heap_alloc _ _ _ hlt).trans HR2.out
  have hb : Below w.heap.size w y := by rw [← hy]; exact HB2.out.alloc HB2.out.size _
  change Code.wp _ _ _ _ (w2.alloc (.cells #[.pointer none, .int .i64 0, .int .i64 0] 55))
  rw [hy]
  have HC := Lib.hid hc; have HBY := Lib.hid hb
  clear hlt hc hb hy HR2 HB2
  go_wp2_with (first | (refine wpList_store_row rfl 66 (.tmp 4) (.tmp 23) rfl R (oC 0 0 0) rfl rfl 66 (oC 0 0 0) HC.out (HSZ.out _ _ _) rfl (oC_one _ _ _) ?_))
  have hl := run_loadVar_row (P := Try.prog) (y.setRow R (oC 0 0 0)) R 66 66 (oC 0 0 0) (0, 0) _ (setRow_ad HC.out _) Try.underlying66 rfl (HSZ.out _ _ _)
  exact bodyPost_ret (v := .tuple #[oV 0 0 0, .int .i64 3]) (by simp [results, Try.results34, asAddr, hl, Act.put]; rfl) rfl ⟨rfl, below_setRow HBY.out HRR.out _⟩
set_option maxRecDepth 100000 in
set_option maxHeartbeats 4000000 in
theorem ord_there (h : On A s w) (a : Int) (ha : a ≤ 9223372036854775807) (h1 : 16 ≤ a) (he : thereE s.L s.es (a - 16) 16 = 0) :
    Calls Try.prog 34 #[.pointer (some ⟨A, 0, none⟩), .int .i64 a] w (Gives (.tuple #[oV a (rdZ s.mm (a - 16).toNat) (rdP s.mm (a - 16).toNat), .int .i64 0]) w) := by
  have hh := (there_iff h.good (a - 16) 16).1 (by unfold thereE at he; cases hq : thereB s.L s.es (a - 16) 16 with
    | true => rfl
    | false => rw [hq] at he; cases he)
  have hs := h.good.small
  have HA := Lib.hid (fun (y : World) (hy : On A s y) => oahead_any hy a ⟨h1, ha⟩)
  rw [he] at HA
  obtain ⟨an, han0⟩ := Int.eq_ofNat_of_zero_le (show 0 ≤ a - 16 by omega)
  rw [han0] at he HA ⊢
  rw [show ofV (some ⟨A, 0, none⟩) (an : Int) 16 0 = .agg #[.pointer (some ⟨A, 0, none⟩), .int .i64 an, .int .i64 16] from rfl] at HA
  rw [Int.toNat_natCast]
  have han : an ≤ 4294967296 := by omega
  have HEA : Hid (thereE s.L s.es (addrV an 16 0 (F2 2 : Nat)) (F2 2 : Nat) = 0) := Lib.hid (by rw [addr_ho, F2_at.2.2]; exact he)
  have hn : numC 2 (allV s an F2) 2 = #[.int .u64 (n2 s.mm an 0), .int .u64 (n2 s.mm an 1)] := by
    rw [← allV_n2 s an 0 (by omega), ← allV_n2 s an 1 (by omega)]; rfl
  have HNC := Lib.hid hn
  have HO := Lib.hid h
  have QZ : Hid (IntKind.i64.wrap (n2 s.mm an 0) = rdZ s.mm an) := Lib.hid (wr64 _)
  have QP : Hid (IntKind.i64.wrap (n2 s.mm an 1) = rdP s.mm an) := Lib.hid (wr64 _)
  obtain ⟨z, hz⟩ : ∃ z, rdZ s.mm an = z := ⟨_, rfl⟩
  obtain ⟨p, hp⟩ : ∃ p, rdP s.mm an = p := ⟨_, rfl⟩
  obtain ⟨n0, hn0⟩ : ∃ n, n2 s.mm an 0 = n := ⟨_, rfl⟩
  obtain ⟨n1, hn1⟩ : ∃ n, n2 s.mm an 1 = n := ⟨_, rfl⟩
  rw [hz, hp]
  rw [hz, hn0] at QZ
  rw [hp, hn1] at QP
  rw [hn0, hn1] at HNC
  clear h he hh hs hn hz hp hn0 hn1 han0
  have HR := Lib.hid (ob_new w 0 0 0)
  have HB := Lib.hid (bel1 w (.cells (oC 0 0 0) 66))
  have HSZ : Hid (∀ a z p, (Try.prog.info? 66).map (·.size) = some (oC a z p).size) := Lib.hid (fun a z p => Try.infoObj)
  go_enter Try.func34, Try.ntmps34
  go_upto_region 1 with fail
  obtain ⟨x, hx⟩ : ∃ x, w.alloc (.cells (oC 0 0 0) 66) = x := ⟨_, rfl⟩
  obtain ⟨R, hRR⟩ : ∃ R, w.heap.size = R := ⟨_, rfl⟩
  rw [hx] at HR HB
  rw [hRR] at HR
  change Code.wp _ _ _ _ (w.alloc (.cells (oC 0 0 0) 66))
  rw [hx, hRR]
  have HRR := Lib.hid (show w.heap.size ≤ R by omega)
  clear hx hRR
  go_wp2_with fail
  refine (HA.out _ (HO.out.below HB.out)).mono ?_
  rintro e w2 ⟨rfl, hb⟩
  have HB2 := Lib.hid (HB.out.trans (hb.mono HB.out.size))
  have HR2 := Lib.hid (show ObjB R 0 0 0 w2 from blk_at hb HR.out)
  clear hb HR HB HA
  go_upto_region 8 with fail
  obtain ⟨y, hy⟩ : ∃ y, (w2.alloc (.cells #[.pointer (some ⟨A, 0, none⟩), .int .i64 (an : Int), .int .i64 16] 55)) = y := ⟨_, rfl⟩
  have hlt := (Array.getElem?_eq_some_iff.1 HR2.out).1
  have hv : VC w2.heap.size (some ⟨A, 0, none⟩) an 16 y := by rw [← hy]; exact heap_new _ _
  have hc : ObjB R 0 0 0 y := by
    unfold ObjB; rw [← hy]; exact (Below.heap_alloc _ _ _ hlt).trans HR2.out
  have hb : Below w.heap.size w y := by rw [← hy]; exact HB2.out.alloc HB2.out.size _
  change Code.wp _ _ _ _ (w2.alloc (.cells #[.pointer (some ⟨A, 0, none⟩), .int .i64 (an : Int), .int .i64 16] 55))
  rw [hy]
  obtain ⟨V, hV⟩ : ∃ V, w2.heap.size = V := ⟨_, rfl⟩
  rw [hV] at hv ⊢
  have hS0 : ORS R V A an y.drew := (ors_mk hc hv).below (Below.refl _ _).drew
  have HB3 := Lib.hid (show Below w.heap.size w y.drew from hb.drew)
  clear hlt hv hc hb hy hV HR2 HB2
  refine wp_region_held_drew (S := ORS R V A an) (by kernel_rfl) hS0 (fun hHeld => ?_)
  clear hS0
  refine wpAnyH_take (i := 1) (v := (.agg #[.pointer (some ⟨A, 0, none⟩), .int .i64 (an : Int), .int .i64 16])) rfl (by kernel_rfl) (by kernel_rfl) (by kernel_rfl) (fun _ _ _ h => h) (Or.inl ⟨by rfl, fun X hS => ?_⟩) hHeld ?_
  · obtain ⟨s0, s1, s2, s3, s4⟩ := hS
    go_simp
  try simp only [Act.put, List.getElem_toArray, List.getElem_cons_zero, List.getElem_cons_succ, List.setIfInBounds_toArray, List.set_cons_zero, List.set_cons_succ]
  refine wpAnyH_ready (rs := [0]) (by kernel_rfl) (by simp) (AllReadyH.cons rfl (fun K1 hK1 => ?_) AllReadyH.nil)
  go_simp
  refine (ohead_any _).mono ?_
  rintro e x1 ⟨rfl, hb1⟩
  have HB4 := Lib.hid (HB3.out.trans (hb1.mono HB3.out.size))
  have hS1 := hHeld.below hb1
  clear hHeld hb1
  refine hK1.out _ _ hS1 (fun hHeld => ?_)
  clear hK1 hS1
  try simp only [Act.put, List.getElem_toArray, List.getElem_cons_zero, List.getElem_cons_succ, List.setIfInBounds_toArray, List.set_cons_zero, List.set_cons_succ]
  refine wpAnyH_ready (rs := [2]) (by kernel_rfl) (by simp) (AllReadyH.cons rfl (fun K2 hK2 => ?_) AllReadyH.nil)
  go_simp
  refine (fall_on (HO.out.below HB4.out) 2 F2 rec2 an 16 han (by omega) an (addr_ho an) HEA.out).mono ?_
  rintro e x2 ⟨N, rfl, hN, hNlt, hb2⟩
  rw [HNC.out] at hN
  have HB5 := Lib.hid (HB4.out.trans (hb2.mono HB4.out.size))
  have hS2 := hHeld.below hb2
  have HNB := Lib.hid (show NB2 N n0 n1 x2 from hN)
  have HCR := Lib.hid hS2.2.2.2.1
  clear hHeld hb2 hN hNlt HB3 HB4 HO HEA HNC
  refine hK2.out _ _ hS2 (fun hHeld => ?_)
  clear hK2 hS2
  try simp only [Act.put, List.getElem_toArray, List.getElem_cons_zero, List.getElem_cons_succ, List.setIfInBounds_toArray, List.set_cons_zero, List.set_cons_succ]
  refine wpAnyH_take (i := 3) (v := (.tuple #[.slice (some ⟨N, 0, none⟩) 2 2, .int .i64 0])) rfl (by kernel_rfl) (by kernel_rfl) (by kernel_rfl) (fun _ _ _ h => h) (Or.inl ⟨by rfl, fun X hS => ?_⟩) hHeld ?_
  · obtain ⟨s0, s1, s2, s3, s4⟩ := hS
    go_simp
  try simp only [Act.put, List.getElem_toArray, List.getElem_cons_zero, List.getElem_cons_succ, List.setIfInBounds_toArray, List.set_cons_zero, List.set_cons_succ]
  refine wpAnyH_take (i := 4) (v := (.slice (some ⟨N, 0, none⟩) 2 2)) rfl (by kernel_rfl) (by kernel_rfl) (by kernel_rfl) (fun _ _ _ h => h) (Or.inl ⟨by rfl, fun X hS => ?_⟩) hHeld ?_
  · obtain ⟨s0, s1, s2, s3, s4⟩ := hS
    go_simp
  try simp only [Act.put, List.getElem_toArray, List.getElem_cons_zero, List.getElem_cons_succ, List.setIfInBounds_toArray, List.set_cons_zero, List.set_cons_succ]
  refine wpAnyH_take (i := 5) (v := (.int .i64 0)) rfl (by kernel_rfl) (by kernel_rfl) (by kernel_rfl) (fun _ _ _ h => h) (Or.inl ⟨by rfl, fun X hS => ?_⟩) hHeld ?_
  · obtain ⟨s0, s1, s2, s3, s4⟩ := hS
    go_simp
  try simp only [Act.put, List.getElem_toArray, List.getElem_cons_zero, List.getElem_cons_succ, List.setIfInBounds_toArray, List.set_cons_zero, List.set_cons_succ]
  refine wpAnyH_take (i := 6) (v := (.slice (some ⟨N, 0, none⟩) 2 2)) rfl (by kernel_rfl) (by kernel_rfl) (by kernel_rfl) (fun _ _ _ h => h) (Or.inl ⟨by rfl, fun X hS => ?_⟩) hHeld ?_
  · obtain ⟨s0, s1, s2, s3, s4⟩ := hS
    go_simp
  try simp only [Act.put, List.getElem_toArray, List.getElem_cons_zero, List.getElem_cons_succ, List.setIfInBounds_toArray, List.set_cons_zero, List.set_cons_succ]
  refine wpAnyH_take (i := 7) (v := (.int .i64 0)) rfl (by kernel_rfl) (by kernel_rfl) (by kernel_rfl) (fun _ _ _ h => h) (Or.inl ⟨by rfl, fun X hS => ?_⟩) hHeld ?_
  · obtain ⟨s0, s1, s2, s3, s4⟩ := hS
    go_simp
  try simp only [Act.put, List.getElem_toArray, List.getElem_cons_zero, List.getElem_cons_succ, List.setIfInBounds_toArray, List.set_cons_zero, List.set_cons_succ]
  refine wpAnyH_done (by kernel_rfl) ?_ _
  clear hHeld
  go_upto_region 11 with fail
  have hS0 : ORN N n0 n1 x2.drew := (orn_mk HNB.out).below (Below.refl _ _).drew
  have HB6 := Lib.hid (show Below w.heap.size w x2.drew from HB5.out.drew)
  refine wp_region_held_drew (S := ORN N n0 n1) (by kernel_rfl) hS0 (fun hHeld => ?_)
  clear hS0
  refine wpAnyH_take (i := 0) (v := (.int .i64 a)) rfl (by kernel_rfl) (by kernel_rfl) (by kernel_rfl) (fun _ _ _ h => h) (Or.inl ⟨by rfl, fun X hS => ?_⟩) hHeld ?_
  · obtain ⟨s0, s1, s2⟩ := hS
    go_simp
  try simp only [Act.put, List.getElem_toArray, List.getElem_cons_zero, List.getElem_cons_succ, List.setIfInBounds_toArray, List.set_cons_zero, List.set_cons_succ]
  refine wpAnyH_take (i := 1) (v := (.slice (some ⟨N, 0, none⟩) 2 2)) rfl (by kernel_rfl) (by kernel_rfl) (by kernel_rfl) (fun _ _ _ h => h) (Or.inl ⟨by rfl, fun X hS => ?_⟩) hHeld ?_
  · obtain ⟨s0, s1, s2⟩ := hS
    go_simp
  try simp only [Act.put, List.getElem_toArray, List.getElem_cons_zero, List.getElem_cons_succ, List.setIfInBounds_toArray, List.set_cons_zero, List.set_cons_succ]
  refine wpAnyH_take (i := 2) (v := (.pointer (some ⟨N, 0, none⟩))) rfl (by kernel_rfl) (by kernel_rfl) (by kernel_rfl) (fun _ _ _ h => h) (Or.inl ⟨by rfl, fun X hS => ?_⟩) hHeld ?_
  · obtain ⟨s0, s1, s2⟩ := hS
    go_simp
  try simp only [Act.put, List.getElem_toArray, List.getElem_cons_zero, List.getElem_cons_succ, List.setIfInBounds_toArray, List.set_cons_zero, List.set_cons_succ]
  refine wpAnyH_take (i := 3) (v := (.int .u64 n0)) rfl (by kernel_rfl) (by kernel_rfl) (by kernel_rfl) (fun _ _ _ h => h) (Or.inl ⟨by rfl, fun X hS => ?_⟩) hHeld ?_
  · obtain ⟨s0, s1, s2⟩ := hS
    go_simp
  try simp only [Act.put, List.getElem_toArray, List.getElem_cons_zero, List.getElem_cons_succ, List.setIfInBounds_toArray, List.set_cons_zero, List.set_cons_succ]
  refine wpAnyH_take (i := 4) (v := (.int .i64 z)) rfl (by kernel_rfl) (by kernel_rfl) (by kernel_rfl) (fun _ _ _ h => h) (Or.inl ⟨by rfl, fun X hS => ?_⟩) hHeld ?_
  · obtain ⟨s0, s1, s2⟩ := hS
    have q := QZ.out
    go_simp
  try simp only [Act.put, List.getElem_toArray, List.getElem_cons_zero, List.getElem_cons_succ, List.setIfInBounds_toArray, List.set_cons_zero, List.set_cons_succ]
  refine wpAnyH_take (i := 5) (v := (.slice (some ⟨N, 0, none⟩) 2 2)) rfl (by kernel_rfl) (by kernel_rfl) (by kernel_rfl) (fun _ _ _ h => h) (Or.inl ⟨by rfl, fun X hS => ?_⟩) hHeld ?_
  · obtain ⟨s0, s1, s2⟩ := hS
    go_simp
  try simp only [Act.put, List.getElem_toArray, List.getElem_cons_zero, List.getElem_cons_succ, List.setIfInBounds_toArray, List.set_cons_zero, List.set_cons_succ]
  refine wpAnyH_take (i := 6) (v := (.pointer (some ⟨N, 1, none⟩))) rfl (by kernel_rfl) (by kernel_rfl) (by kernel_rfl) (fun _ _ _ h => h) (Or.inl ⟨by rfl, fun X hS => ?_⟩) hHeld ?_
  · obtain ⟨s0, s1, s2⟩ := hS
    go_simp
  try simp only [Act.put, List.getElem_toArray, List.getElem_cons_zero, List.getElem_cons_succ, List.setIfInBounds_toArray, List.set_cons_zero, List.set_cons_succ]
  refine wpAnyH_take (i := 7) (v := (.int .u64 n1)) rfl (by kernel_rfl) (by kernel_rfl) (by kernel_rfl) (fun _ _ _ h => h) (Or.inl ⟨by rfl, fun X hS => ?_⟩) hHeld ?_
  · obtain ⟨s0, s1, s2⟩ := hS
    go_simp
  try simp only [Act.put, List.getElem_toArray, List.getElem_cons_zero, List.getElem_cons_succ, List.setIfInBounds_toArray, List.set_cons_zero, List.set_cons_succ]
  refine wpAnyH_take (i := 8) (v := (.int .i64 p)) rfl (by kernel_rfl) (by kernel_rfl) (by kernel_rfl) (fun _ _ _ h => h) (Or.inl ⟨by rfl, fun X hS => ?_⟩) hHeld ?_
  · obtain ⟨s0, s1, s2⟩ := hS
    have q := QP.out
    go_simp
  try simp only [Act.put, List.getElem_toArray, List.getElem_cons_zero, List.getElem_cons_succ, List.setIfInBounds_toArray, List.set_cons_zero, List.set_cons_succ]
  refine wpAnyH_take (i := 9) (v := (.agg #[.int .i64 a, .int .i64 z, .int .i64 p])) rfl (by kernel_rfl) (by kernel_rfl) (by kernel_rfl) (fun _ _ _ h => h) (Or.inl ⟨by rfl, fun X hS => ?_⟩) hHeld ?_
  · obtain ⟨s0, s1, s2⟩ := hS
    go_simp
  try simp only [Act.put, List.getElem_toArray, List.getElem_cons_zero, List.getElem_cons_succ, List.setIfInBounds_toArray, List.set_cons_zero, List.set_cons_succ]
  refine wpAnyH_ready (rs := [10]) (by kernel_rfl) (by simp) (AllReadyH.cons rfl (fun K3 hK3 => ?_) AllReadyH.nil)
  have hR := HCR.out
  obtain ⟨c0, c1, c2⟩ := hR.all
  have f0 := (cell_blk hR 0).2
  have f1 := (cell_blk hR 1).2
  have f2 := (cell_blk hR 2).2
  clear hHeld
  go_simp
  have hr3 : ObjB R a z p (((x2.setCell ⟨R, 0, none⟩ (.int .i64 a)).setCell ⟨R, 1, none⟩ (.int .i64 z)).setCell ⟨R, 2, none⟩ (.int .i64 p)).drew := three_set hR rfl _ _ _
  have hb3 : Below w.heap.size w (((x2.setCell ⟨R, 0, none⟩ (.int .i64 a)).setCell ⟨R, 1, none⟩ (.int .i64 z)).setCell ⟨R, 2, none⟩ (.int .i64 p)).drew :=
    (((HB5.out.setCell (p := ⟨R, 0, none⟩) HRR.out _).setCell (p := ⟨R, 1, none⟩) HRR.out _).setCell (p := ⟨R, 2, none⟩) HRR.out _).drew
  have hne := nb_ne HNB.out hR
  have hn3 : ORN N n0 n1 (((x2.setCell ⟨R, 0, none⟩ (.int .i64 a)).setCell ⟨R, 1, none⟩ (.int .i64 z)).setCell ⟨R, 2, none⟩ (.int .i64 p)).drew :=
    orn_mk (show NB2 N n0 n1 _ from (set_other _ hne).trans ((set_other _ hne).trans ((set_other _ hne).trans HNB.out)))
  obtain ⟨x3, hx3⟩ : ∃ x3, (((x2.setCell ⟨R, 0, none⟩ (.int .i64 a)).setCell ⟨R, 1, none⟩ (.int .i64 z)).setCell ⟨R, 2, none⟩ (.int .i64 p)).drew = x3 := ⟨_, rfl⟩
  rw [hx3] at hr3 hb3 hn3 ⊢
  have HR3 := Lib.hid hr3; have HB3 := Lib.hid hb3
  clear c0 c1 c2 f0 f1 f2 hR hx3 hr3 hb3 HCR HB5 HB6
  refine hK3.out _ _ hn3 (fun hHeld => ?_)
  clear hK3 hn3 hne HNB
  try simp only [Act.put, List.getElem_toArray, List.getElem_cons_zero, List.getElem_cons_succ, List.setIfInBounds_toArray, List.set_cons_zero, List.set_cons_succ]
  refine wpAnyH_take (i := 11) (v := (.int .i64 0)) rfl (by kernel_rfl) (by kernel_rfl) (by kernel_rfl) (fun _ _ _ h => h) (Or.inl ⟨by rfl, fun X hS => ?_⟩) hHeld ?_
  · clear hS
    go_simp
  try simp only [Act.put, List.getElem_toArray, List.getElem_cons_zero, List.getElem_cons_succ, List.setIfInBounds_toArray, List.set_cons_zero, List.set_cons_succ]
  refine wpAnyH_done (by kernel_rfl) ?_ _
  go_wp2_with fail
  have hl := run_loadVar_row (P := Try.prog) x3 R 66 66 (oC a z p) (0, 0) _ HR3.out Try.underlying66 rfl (HSZ.out _ _ _)
  exact bodyPost_ret (v := .tuple #[oV a z p, .int .i64 0]) (by simp [results, Try.results34, asAddr, hl, Act.put]; rfl) rfl ⟨rfl, HB3.out⟩
end
end Go.Proofs.Ytdmaendhkenmgaa.Bt
/- The document's Write of an object's header: what is wrong with it. (Written by gen_ojh.py.) -/
namespace Go.Proofs.Ytdmaendhkenmgaa.Bt
open Go Go.RowKit Go.Shelf
set_option linter.unusedVariables false
set_option linter.unusedSimpArgs false

def rwE (gs : List ByteArray) (a z p : Int) : Int := if a < 16 ∨ z < 0 ∨ p < 0 then 2 else if thereG gs (a - 16) 16 = true then 0 else 3
set_option maxRecDepth 100000 in
theorem rwr_any {b cap : Nat} {gs : List ByteArray} (hL : gs.length ≤ 1048576) (r a z p : Int) {w : World} (hb : DocB b gs w) (ha : -9223372036854775808 ≤ a ∧ a ≤ 9223372036854775807) :
    Calls Try.prog 32 #[docV (some ⟨b, 0, none⟩) gs.length cap r, oV a z p] w (Gives (.int .i64 (rwE gs a z p)) w) := by
  have bw1 := bel1 w (.cells #[.slice (some ⟨b, 0, none⟩) gs.length cap, .int .i64 r] 30)
  have bw2 := bel1 (w.alloc (.cells #[.slice (some ⟨b, 0, none⟩) gs.length cap, .int .i64 r] 30)) (.cells (oC a z p) 71)
  have HBW := Lib.hid (bw1.trans (bw2.mono bw1.size))
  have HDB := Lib.hid (hb.below (bw1.trans (bw2.mono bw1.size)))
  have HDW := Lib.hid (show DocW w.heap.size b gs.length cap r _ from blk_at bw2 (DocW.new b gs.length cap r w))
  have HOB := Lib.hid (heap_new (w.alloc (.cells #[.slice (some ⟨b, 0, none⟩) gs.length cap, .int .i64 r] 30)) (.cells (oC a z p) 71))
  have HTH := Lib.hid (fun (y : World) (hy : DocB b gs y) (ha2 : -9223372036854775808 ≤ a - 16 ∧ a - 16 ≤ 9223372036854775807) => dthere_any (cap := cap) hL r (a - 16) 16 hy ha2 (by omega))
  obtain ⟨L, hLL⟩ : ∃ L, gs.length = L := ⟨_, rfl⟩
  rw [hLL] at HBW HDB HDW HOB HTH ⊢
  clear hLL bw1 bw2 hb hL
  by_cases h1 : a < 16
  · have HE : Hid (rwE gs a z p = 2) := Lib.hid (by unfold rwE; rw [if_pos (.inl h1)])
    go_enter Try.func32, Try.ntmps32
    go_upto_region 1 with fail
    change Code.wp _ _ _ _ ((w.alloc (.cells #[.slice (some ⟨b, 0, none⟩) L cap, .int .i64 r] 30)).alloc (.cells (oC a z p) 71))
    obtain ⟨y, hy⟩ : ∃ y, ((w.alloc (.cells #[.slice (some ⟨b, 0, none⟩) L cap, .int .i64 r] 30)).alloc (.cells (oC a z p) 71)) = y := ⟨_, rfl⟩
    obtain ⟨V, hV⟩ : ∃ V, w.heap.size = V := ⟨_, rfl⟩
    obtain ⟨B, hB⟩ : ∃ B, (w.alloc (.cells #[.slice (some ⟨b, 0, none⟩) L cap, .int .i64 r] 30)).heap.size = B := ⟨_, rfl⟩
    have hBV : V + 1 = B := by rw [← hB, ← hV]; simp
    rw [hy] at HDW HOB HBW HDB
    rw [hV] at HDW
    rw [hB] at HOB
    rw [hy, hV]
    try rw [hB]
    clear hy hV hB
    obtain ⟨c0, c1⟩ := HDW.out.all
    have o0 := (cell_blk HOB.out 0).1
    have o1 := (cell_blk HOB.out 1).1
    have o2 := (cell_blk HOB.out 2).1
    change y.cell? ⟨B, 0, none⟩ = some (.int .i64 a) at o0
    change y.cell? ⟨B, 1, none⟩ = some (.int .i64 z) at o1
    change y.cell? ⟨B, 2, none⟩ = some (.int .i64 p) at o2
    subst hBV
    go_wp2_with fail
    go_ret
    exact ⟨by rw [HE.out]; rfl, HBW.out⟩
  · by_cases h2 : z < 0
    · have HE : Hid (rwE gs a z p = 2) := Lib.hid (by unfold rwE; rw [if_pos (.inr (.inl h2))])
      go_enter Try.func32, Try.ntmps32
      go_upto_region 1 with fail
      change Code.wp _ _ _ _ ((w.alloc (.cells #[.slice (some ⟨b, 0, none⟩) L cap, .int .i64 r] 30)).alloc (.cells (oC a z p) 71))
      obtain ⟨y, hy⟩ : ∃ y, ((w.alloc (.cells #[.slice (some ⟨b, 0, none⟩) L cap, .int .i64 r] 30)).alloc (.cells (oC a z p) 71)) = y := ⟨_, rfl⟩
      obtain ⟨V, hV⟩ : ∃ V, w.heap.size = V := ⟨_, rfl⟩
      obtain ⟨B, hB⟩ : ∃ B, (w.alloc (.cells #[.slice (some ⟨b, 0, none⟩) L cap, .int .i64 r] 30)).heap.size = B := ⟨_, rfl⟩
      have hBV : V + 1 = B := by rw [← hB, ← hV]; simp
      rw [hy] at HDW HOB HBW HDB
      rw [hV] at HDW
      rw [hB] at HOB
      rw [hy, hV]
      try rw [hB]
      clear hy hV hB
      obtain ⟨c0, c1⟩ := HDW.out.all
      have o0 := (cell_blk HOB.out 0).1
      have o1 := (cell_blk HOB.out 1).1
      have o2 := (cell_blk HOB.out 2).1
      change y.cell? ⟨B, 0, none⟩ = some (.int .i64 a) at o0
      change y.cell? ⟨B, 1, none⟩ = some (.int .i64 z) at o1
      change y.cell? ⟨B, 2, none⟩ = some (.int .i64 p) at o2
      subst hBV
      go_wp2_with fail
      go_ret
      exact ⟨by rw [HE.out]; rfl, HBW.out⟩
    · by_cases h3 : p < 0
      · have HE : Hid (rwE gs a z p = 2) := Lib.hid (by unfold rwE; rw [if_pos (.inr (.inr h3))])
        go_enter Try.func32, Try.ntmps32
        go_upto_region 1 with fail
        change Code.wp _ _ _ _ ((w.alloc (.cells #[.slice (some ⟨b, 0, none⟩) L cap, .int .i64 r] 30)).alloc (.cells (oC a z p) 71))
        obtain ⟨y, hy⟩ : ∃ y, ((w.alloc (.cells #[.slice (some ⟨b, 0, none⟩) L cap, .int .i64 r] 30)).alloc (.cells (oC a z p) 71)) = y := ⟨_, rfl⟩
        obtain ⟨V, hV⟩ : ∃ V, w.heap.size = V := ⟨_, rfl⟩
        obtain ⟨B, hB⟩ : ∃ B, (w.alloc (.cells #[.slice (some ⟨b, 0, none⟩) L cap, .int .i64 r] 30)).heap.size = B := ⟨_, rfl⟩
        have hBV : V + 1 = B := by rw [← hB, ← hV]; simp
        rw [hy] at HDW HOB HBW HDB
        rw [hV] at HDW
        rw [hB] at HOB
        rw [hy, hV]
        try rw [hB]
        clear hy hV hB
        obtain ⟨c0, c1⟩ := HDW.out.all
        have o0 := (cell_blk HOB.out 0).1
        have o1 := (cell_blk HOB.out 1).1
        have o2 := (cell_blk HOB.out 2).1
        change y.cell? ⟨B, 0, none⟩ = some (.int .i64 a) at o0
        change y.cell? ⟨B, 1, none⟩ = some (.int .i64 z) at o1
        change y.cell? ⟨B, 2, none⟩ = some (.int .i64 p) at o2
        subst hBV
        go_wp2_with fail
        go_ret
        exact ⟨by rw [HE.out]; rfl, HBW.out⟩
      · have HE : Hid (rwE gs a z p = if thereG gs (a - 16) 16 = true then 0 else 3) := Lib.hid (by unfold rwE; rw [if_neg (by omega)])
        have q : wrap64 (a - 16) = a - 16 := IntWalk.wrap64_in _ ⟨by omega, by omega⟩
        have HT2 := Lib.hid (fun (y : World) (hy : DocB b gs y) => HTH.out y hy (by omega))
        obtain ⟨T, hT⟩ : ∃ T, thereG gs (a - 16) 16 = T := ⟨_, rfl⟩
        rw [hT] at HT2 HE
        clear HTH hT ha
        go_enter Try.func32, Try.ntmps32
        go_upto_region 1 with fail
        change Code.wp _ _ _ _ ((w.alloc (.cells #[.slice (some ⟨b, 0, none⟩) L cap, .int .i64 r] 30)).alloc (.cells (oC a z p) 71))
        obtain ⟨y, hy⟩ : ∃ y, ((w.alloc (.cells #[.slice (some ⟨b, 0, none⟩) L cap, .int .i64 r] 30)).alloc (.cells (oC a z p) 71)) = y := ⟨_, rfl⟩
        obtain ⟨V, hV⟩ : ∃ V, w.heap.size = V := ⟨_, rfl⟩
        obtain ⟨B, hB⟩ : ∃ B, (w.alloc (.cells #[.slice (some ⟨b, 0, none⟩) L cap, .int .i64 r] 30)).heap.size = B := ⟨_, rfl⟩
        have hBV : V + 1 = B := by rw [← hB, ← hV]; simp
        rw [hy] at HDW HOB HBW HDB
        rw [hV] at HDW
        rw [hB] at HOB
        rw [hy, hV]
        try rw [hB]
        clear hy hV hB
        obtain ⟨c0, c1⟩ := HDW.out.all
        have o0 := (cell_blk HOB.out 0).1
        have o1 := (cell_blk HOB.out 1).1
        have o2 := (cell_blk HOB.out 2).1
        change y.cell? ⟨B, 0, none⟩ = some (.int .i64 a) at o0
        change y.cell? ⟨B, 1, none⟩ = some (.int .i64 z) at o1
        change y.cell? ⟨B, 2, none⟩ = some (.int .i64 p) at o2
        subst hBV
        go_wp2_with fail
        refine (HT2.out _ HDB.out).mono ?_
        rintro e w2 ⟨rfl, hb⟩
        have HB2 := Lib.hid (HBW.out.trans (hb.mono HBW.out.size))
        clear hb
        cases T with
        | _ =>
          go_wp2_with fail
          go_ret
          exact ⟨by rw [HE.out]; rfl, HB2.out⟩
end Go.Proofs.Ytdmaendhkenmgaa.Bt
/- ObjectWrites: any header, written and read, or why it can't be. (Written by gen_oji.py.) -/
namespace Go.Proofs.Ytdmaendhkenmgaa.Bt
open Go Go.RowKit Go.Shelf
set_option linter.unusedVariables false
set_option linter.unusedSimpArgs false

def ObjS (B : Nat) (a z p : Int) (X : World) : Prop :=
  X.cell? ⟨B, 0, none⟩ = some (.int .i64 a) ∧ X.cell? ⟨B, 1, none⟩ = some (.int .i64 z) ∧ X.cell? ⟨B, 2, none⟩ = some (.int .i64 p) ∧ ObjB B a z p X
theorem objs_mk {B : Nat} {a z p : Int} {X : World} (h : ObjB B a z p X) : ObjS B a z p X := ⟨h.all.1, h.all.2.1, h.all.2.2, h⟩
theorem ObjS.below {B : Nat} {a z p : Int} {X Y : World} (h : ObjS B a z p X) (hb : Below X.heap.size X Y) : ObjS B a z p Y := objs_mk (blk_at hb h.2.2.2)
def OTwo (B C : Nat) (a z p : Int) (X : World) : Prop :=
  X.cell? ⟨B, 0, none⟩ = some (.int .i64 a) ∧ X.cell? ⟨B, 1, none⟩ = some (.int .i64 z) ∧ X.cell? ⟨B, 2, none⟩ = some (.int .i64 p) ∧ X.cell? ⟨C, 0, none⟩ = some (.int .i64 a) ∧ X.cell? ⟨C, 1, none⟩ = some (.int .i64 z) ∧ X.cell? ⟨C, 2, none⟩ = some (.int .i64 p) ∧ ObjB B a z p X ∧ ObjB C a z p X
theorem otwo_mk {B C : Nat} {a z p : Int} {X : World} (h : ObjB B a z p X) (k : ObjB C a z p X) : OTwo B C a z p X := ⟨h.all.1, h.all.2.1, h.all.2.2, k.all.1, k.all.2.1, k.all.2.2, h, k⟩
theorem OTwo.below {B C : Nat} {a z p : Int} {X Y : World} (h : OTwo B C a z p X) (hb : Below X.heap.size X Y) : OTwo B C a z p Y := otwo_mk (blk_at hb h.2.2.2.2.2.2.1) (blk_at hb h.2.2.2.2.2.2.2)
/-- four pages, of which the third isn't there -/
def oS (m : Nat → UInt8) : ASt := { L := 4, es := [0, 2, 3, 4], mm := m, rf := false, lf := 0 }
theorem oS_1 : commitS (newS 4) 0 2 = { L := 4, es := [0, 2], mm := fun _ => 0, rf := false, lf := 0 } := by rfl
theorem oS_2 : commitS { L := 4, es := [0, 2], mm := fun _ => 0, rf := false, lf := 0 } 3 1 = oS (fun _ => 0) := by rfl
theorem oS_good (m : Nat → UInt8) : Good (oS m).L (oS m).es :=
  ⟨by simp [Rising, oS], by simp [oS], (fun e h => by simp [oS] at h ⊢; omega), by show (4 : Nat) ≤ 1048576; omega⟩
theorem oS_there (m : Nat → UInt8) (a n : Nat) (h : a + n ≤ 8192) : thereE (oS m).L (oS m).es (a : Int) (n : Int) = 0 := by
  have : thereB (oS m).L (oS m).es (a : Int) (n : Int) = true := (there_iff (oS_good m) _ _).2 ⟨by omega, by omega, by show (a : Int) + n ≤ ((4 : Nat) : Int) * 4096; omega, fun i i0 i1 => by
    have : i / 4096 = 0 ∨ i / 4096 = 1 := by omega
    rcases this with e | e <;> rw [e] <;> show mem [0, 2, 3, 4] _ = true <;> decide⟩
  unfold thereE; rw [this]; rfl
set_option maxRecDepth 100000 in
set_option maxHeartbeats 8000000 in
theorem owrites_walk (a z p : Int) (ha : -9223372036854775808 ≤ a ∧ a ≤ 9223372036854775807) (hz2 : z ≤ 9223372036854775807) (hp2 : p ≤ 9223372036854775807) (t : ByteArray) (ht : t.size ≤ 9223372036854775807) (w : World) :
    Calls Try.prog 5 #[oV a z p, .string t] w (TrueAt w) := by
  by_cases hlen : 8192 < (t.size : Int)
  · go_enter Try.func5, Try.ntmps5
    go_upto_region 1 with fail
    have c := ob_new w a z p
    have bw := Lib.hid (bel1 w (.cells (oC a z p) 66))
    obtain ⟨y0, hy⟩ : ∃ y, w.alloc (.cells (oC a z p) 66) = y := ⟨_, rfl⟩
    obtain ⟨B, hB⟩ : ∃ B, w.heap.size = B := ⟨_, rfl⟩
    rw [hy] at c bw
    rw [hB] at c
    change Code.wp _ _ _ _ (w.alloc (.cells (oC a z p) 66))
    rw [hy, hB]
    have HWB := Lib.hid (show w.heap.size ≤ B by omega)
    clear hy hB
    go_wp2_with fail
    refine (awake14_calls _).mono ?_
    rintro e w1 ⟨rfl, hb⟩
    have HC1 := Lib.hid (show ObjB B a z p w1 from blk_at hb c)
    have HW1 := Lib.hid (bw.out.trans (hb.mono bw.out.size))
    clear hb c bw
    go_wp2_with fail
    go_ret
    exact ⟨rfl, HW1.out⟩
  have htl : t.data.toList.length ≤ 8192 := by
    have : t.data.toList.length = t.size := by show t.data.toList.length = t.data.size; exact Array.length_toList
    omega
  have L1 : Hid (lenN 4 = 4) := Lib.hid (by decide)
  have E1 : Hid (commitE (newS 4) 0 2 = 0) := Lib.hid (by decide)
  have S1 := Lib.hid oS_1
  have E2 : Hid (commitE { L := 4, es := [0, 2], mm := fun _ => 0, rf := false, lf := 0 } 3 1 = 0) := Lib.hid (by decide)
  have S2 := Lib.hid oS_2
  have P1 : Hid (thereE (oS fun _ => 0).L (oS fun _ => 0).es 0 t.data.toList.length = 0) := Lib.hid (oS_there _ 0 _ (by omega))
  have P2 : Hid (putS (oS fun _ => 0) 0 t.data.toList = oS (putM (fun _ => 0) 0 t.data.toList)) := Lib.hid (by unfold putS; rw [P1.out, if_pos rfl]; rfl)
  obtain ⟨m, hm⟩ : ∃ m, putM (fun _ => 0) 0 t.data.toList = m := ⟨_, rfl⟩
  rw [hm] at P2
  have HB8 : Hid (∀ m, thereE (oS m).L (oS m).es 0 8192 = 0) := Lib.hid (fun m => oS_there m 0 8192 (by omega))
  have HBY : Hid (∀ m, byV (oS m) 0 8192 = strL (getM m 0 8192)) := Lib.hid (fun m => by unfold byV; rw [HB8.out m, if_pos rfl]; rfl)
  have HRW : Hid (∀ (b : Nat) (x : World), DocB b (gS (oS m)) x → Calls Try.prog 32 #[docV (some ⟨b, 0, none⟩) 4 4 (-1), oV a z p] x (Gives (.int .i64 (rwE (gS (oS m)) a z p)) x)) :=
    Lib.hid (fun b x hd => by have := rwr_any (cap := 4) (by rw [gS_len]; show (4 : Nat) ≤ _; omega) (-1) a z p hd ha; rw [gS_len] at this; exact this)
  have HTE : Hid (∀ a n : Int, thereG (gS (oS m)) a n = thereB (oS m).L (oS m).es a n) := Lib.hid (fun a n => gS_there (oS_good m) a n)
  clear hm
  have HST : Hid ((a < 16 ∧ rwE (gS (oS m)) a z p = 2) ∨ (16 ≤ a ∧ (z < 0 ∨ p < 0) ∧ rwE (gS (oS m)) a z p = 2) ∨ (16 ≤ a ∧ 0 ≤ z ∧ 0 ≤ p ∧ rwE (gS (oS m)) a z p = if thereG (gS (oS m)) (a - 16) 16 = true then 0 else 3)) := Lib.hid (by
    unfold rwE
    by_cases h1 : a < 16
    · exact .inl ⟨h1, if_pos (.inl h1)⟩
    · by_cases h2 : z < 0 ∨ p < 0
      · exact .inr (.inl ⟨by omega, h2, if_pos (.inr h2)⟩)
      · exact .inr (.inr ⟨by omega, by omega, by omega, if_neg (by omega)⟩))
  rcases HST.out with ⟨h16, her0⟩ | ⟨h16, hneg, her0⟩ | ⟨h16, hz, hp, her0⟩
  · have HWR : Hid (∀ (A : Nat) (y : World), On A (oS m) y → Calls Try.prog 33 #[.pointer (some ⟨A, 0, none⟩), oV a z p] y (Gives (.int .i64 2) y)) := Lib.hid (fun A y hy => owr_arg hy a z p (.inl h16))
    have HRD : Hid (∀ (A : Nat) (y : World), On A (oS m) y → Calls Try.prog 34 #[.pointer (some ⟨A, 0, none⟩), .int .i64 a] y (Gives (.tuple #[.agg #[.int .i64 0, .int .i64 0, .int .i64 0], .int .i64 2]) y)) := Lib.hid (fun A y hy => ord_arg hy a h16)
    obtain ⟨er, her⟩ : ∃ er : Int, er = 2 := ⟨_, rfl⟩
    have HER : Hid (rwE (gS (oS m)) a z p = er) := Lib.hid (her0.trans her.symm)
    clear her0 HST HTE ha hz2 hp2
    go_enter Try.func5, Try.ntmps5
    go_upto_region 1 with fail
    have c := ob_new w a z p
    have bw := Lib.hid (bel1 w (.cells (oC a z p) 66))
    obtain ⟨y0, hy⟩ : ∃ y, w.alloc (.cells (oC a z p) 66) = y := ⟨_, rfl⟩
    obtain ⟨B, hB⟩ : ∃ B, w.heap.size = B := ⟨_, rfl⟩
    rw [hy] at c bw
    rw [hB] at c
    change Code.wp _ _ _ _ (w.alloc (.cells (oC a z p) 66))
    rw [hy, hB]
    have HWB := Lib.hid (show w.heap.size ≤ B by omega)
    clear hy hB
    go_wp2_with fail
    refine (awake14_calls _).mono ?_
    rintro e w1 ⟨rfl, hb⟩
    have HC1 := Lib.hid (show ObjB B a z p w1 from blk_at hb c)
    have HW1 := Lib.hid (bw.out.trans (hb.mono bw.out.size))
    clear hb c bw
    go_wp2_with fail
    refine (on_new 4 _).mono ?_
    rintro e w2 ⟨A, rfl, hA, hx, hb, hmn⟩
    rw [L1.out] at hx
    have HX2 := Lib.hid hx
    have HB2 := Lib.hid (hb.rebase HW1.out)
    have HC2 := Lib.hid (show ObjB B a z p w2 from (hb.bel.block _ (Array.getElem?_eq_some_iff.1 HC1.out).1).trans HC1.out)
    clear hx hb hA hmn HC1 HW1 L1
    go_wp2_with fail
    refine (on_commit HX2.out 0 2 (by omega)).mono ?_
    rintro e w3 ⟨rfl, hx, hg⟩
    rw [E1.out]; rw [S1.out] at hx
    have HX3 := Lib.hid hx
    have HB3 := Lib.hid (HB2.out.went hg)
    have HC3 := Lib.hid (show ObjB B a z p w3 from hg.keep HX2.out HC2.out (by decide) (by decide) (by decide))
    clear hx hg HX2 HB2 HC2 E1 S1
    go_wp2_with fail
    refine (on_commit HX3.out 3 1 (by omega)).mono ?_
    rintro e w4 ⟨rfl, hx, hg⟩
    rw [E2.out]; rw [S2.out] at hx
    have HX4 := Lib.hid hx
    have HB4 := Lib.hid (HB3.out.went hg)
    have HC4 := Lib.hid (show ObjB B a z p w4 from hg.keep HX3.out HC3.out (by decide) (by decide) (by decide))
    clear hx hg HX3 HB3 HC3 E2 S2
    go_wp2_with fail
    refine (on_aput HX4.out 0 (by omega) t ht).mono ?_
    rintro e w5 ⟨rfl, hx, hg⟩
    rw [P1.out]; rw [P2.out] at hx
    have HX5 := Lib.hid hx
    have HB5 := Lib.hid (HB4.out.went hg)
    have HC5 := Lib.hid (show ObjB B a z p w5 from hg.keep HX4.out HC4.out (by decide) (by decide) (by decide))
    clear hx hg HX4 HB4 HC4 P1 P2 htl
    go_wp2_with fail
    refine (on_abytes HX5.out 0 8192 (by omega)).mono ?_
    rintro e w6 ⟨rfl, hb⟩
    rw [HBY.out m, HB8.out m]
    obtain ⟨W, hW⟩ : ∃ W, strL (getM m 0 8192) = W := ⟨_, rfl⟩
    have HW := Lib.hid hW
    have HX6 := Lib.hid (HX5.out.below hb)
    have HB6 := Lib.hid (HB5.out.below HX5.out hb)
    have HC6 := Lib.hid (show ObjB B a z p w6 from blk_at hb HC5.out)
    rw [hW]
    clear hb HX5 HB5 HC5 hW
    go_upto_region 9 with fail
    have hS0 : ObjS B a z p w6.drew := (objs_mk HC6.out).below (Below.refl _ _).drew
    have HX7 := Lib.hid (show On A (oS m) w6.drew from HX6.out.below (Below.refl _ _).drew)
    have HB7 := Lib.hid (show Base A w w6.drew from HB6.out.below HX6.out (Below.refl _ _).drew)
    clear HX6 HB6 HC6
    refine wp_region_held_drew (S := ObjS B a z p) (by kernel_rfl) hS0 (fun hHeld => ?_)
    clear hS0
    refine wpAnyH_take (i := 0) (v := (.pointer (some ⟨A, 0, none⟩))) rfl (by kernel_rfl) (by kernel_rfl) (by kernel_rfl) (fun _ _ _ h => h) (Or.inl ⟨by rfl, fun X hS => ?_⟩) hHeld ?_
    · obtain ⟨s0, s1, s2, s3⟩ := hS
      go_simp
    try simp only [Act.put, List.getElem_toArray, List.getElem_cons_zero, List.getElem_cons_succ, List.setIfInBounds_toArray, List.set_cons_zero, List.set_cons_succ]
    refine wpAnyH_take (i := 2) (v := (.agg #[.int .i64 a, .int .i64 z, .int .i64 p])) rfl (by kernel_rfl) (by kernel_rfl) (by kernel_rfl) (fun _ _ _ h => h) (Or.inl ⟨by rfl, fun X hS => ?_⟩) hHeld ?_
    · obtain ⟨s0, s1, s2, s3⟩ := hS
      go_simp
    try simp only [Act.put, List.getElem_toArray, List.getElem_cons_zero, List.getElem_cons_succ, List.setIfInBounds_toArray, List.set_cons_zero, List.set_cons_succ]
    refine wpAnyH_ready (rs := [1]) (by kernel_rfl) (by simp) (AllReadyH.cons rfl (fun K1 hK1 => ?_) AllReadyH.nil)
    go_simp
    refine (dof_any HX7.out (by show (4 : Nat) ≤ 8; omega)).mono ?_
    rintro e x1 ⟨b, rfl, hd, hb⟩
    have HX8 := Lib.hid (HX7.out.below hb)
    have HB9 := Lib.hid (HB7.out.below HX7.out hb)
    have HD8 := Lib.hid hd
    have hS1 := hHeld.below hb
    clear hHeld hb hd HX7 HB7
    refine hK1.out _ _ hS1 (fun hHeld => ?_)
    clear hK1 hS1
    try simp only [Act.put, List.getElem_toArray, List.getElem_cons_zero, List.getElem_cons_succ, List.setIfInBounds_toArray, List.set_cons_zero, List.set_cons_succ]
    refine wpAnyH_ready (rs := [3]) (by kernel_rfl) (by simp) (AllReadyH.cons rfl (fun K2 hK2 => ?_) AllReadyH.nil)
    go_simp
    refine (HRW.out b x1 HD8.out).mono ?_
    rintro e x2 ⟨rfl, hb⟩
    rw [HER.out]
    have HXR := Lib.hid (HX8.out.below hb)
    have HBR := Lib.hid (HB9.out.below HX8.out hb)
    have hS2 := hHeld.below hb
    have HCR := Lib.hid hS2.2.2.2
    clear hHeld hb HX8 HB9 HD8
    refine hK2.out _ _ hS2 (fun hHeld => ?_)
    clear hK2 hS2
    try simp only [Act.put, List.getElem_toArray, List.getElem_cons_zero, List.getElem_cons_succ, List.setIfInBounds_toArray, List.set_cons_zero, List.set_cons_succ]
    refine wpAnyH_take (i := 4) (v := (.int .i64 er)) rfl (by kernel_rfl) (by kernel_rfl) (by kernel_rfl) (fun _ _ _ h => h) (Or.inl ⟨by rfl, fun X hS => ?_⟩) hHeld ?_
    · obtain ⟨s0, s1, s2, s3⟩ := hS
      go_simp
    try simp only [Act.put, List.getElem_toArray, List.getElem_cons_zero, List.getElem_cons_succ, List.setIfInBounds_toArray, List.set_cons_zero, List.set_cons_succ]
    refine wpAnyH_done (by kernel_rfl) ?_ _
    clear hHeld
    subst her
    obtain ⟨c0, c1, c2⟩ := HCR.out.all
    go_wp2_with fail
    refine (HWR.out _ _ HXR.out).mono ?_
    rintro e w8 ⟨rfl, hb⟩
    have HX8 := Lib.hid (HXR.out.below hb)
    have HB8_ := Lib.hid (HBR.out.below HXR.out hb)
    have HC8 := Lib.hid (show ObjB B a z p w8 from blk_at hb HCR.out)
    clear hb HXR HBR HCR c0 c1 c2
    obtain ⟨c0, c1, c2⟩ := HC8.out.all
    go_wp2_with fail
    refine (HRD.out _ _ HX8.out).mono ?_
    rintro e w9 ⟨rfl, hb⟩
    have HX9 := Lib.hid (HX8.out.below hb)
    have HB9 := Lib.hid (HB8_.out.below HX8.out hb)
    have HC9 := Lib.hid (show ObjB B a z p w9 from blk_at hb HC8.out)
    clear hb HX8 HB8_ HC8 c0 c1 c2
    go_upto_region 12 with fail
    have hd := ob_new w9 0 0 0
    have hb := (bel1 w9 (.cells (oC 0 0 0) 66))
    have hc := show ObjB B a z p (w9.alloc (.cells (oC 0 0 0) 66)) from blk_at hb HC9.out
    have hX := HX9.out.below hb
    have hB := HB9.out.below HX9.out hb
    obtain ⟨y1, hy⟩ : ∃ y, w9.alloc (.cells (oC 0 0 0) 66) = y := ⟨_, rfl⟩
    obtain ⟨C, hC⟩ : ∃ C, w9.heap.size = C := ⟨_, rfl⟩
    rw [hy] at hd hc hB hX
    rw [hC] at hd
    change Code.wp _ _ _ _ (w9.alloc (.cells (oC 0 0 0) 66))
    rw [hy, hC]
    have HCA := Lib.hid hc; have HDA := Lib.hid hd; have HBA := Lib.hid hB; have HXA := Lib.hid hX
    clear hy hC hc hd hB hb hX HX9 HB9 HC9
    go_wp2_with fail
    refine (on_abytes HXA.out 0 8192 (by omega)).mono ?_
    rintro e w11 ⟨rfl, hb⟩
    rw [HBY.out m, HB8.out m, HW.out]
    have HBB := Lib.hid (HBA.out.below HXA.out hb)
    have HCB := Lib.hid (show ObjB B a z p w11 from blk_at hb HCA.out)
    have HDB := Lib.hid (show ObjB C 0 0 0 w11 from blk_at hb HDA.out)
    clear hb HBA HXA HCA HDA
    obtain ⟨c0, c1, c2⟩ := HCB.out.all
    obtain ⟨d0, d1, d2⟩ := HDB.out.all
    go_wp2_with fail
    go_ret
    first
      | exact ⟨rfl, HBB.out.bel⟩
      | exact ⟨by simp [h16b], HBB.out.bel⟩
  · have HWR : Hid (∀ (A : Nat) (y : World), On A (oS m) y → Calls Try.prog 33 #[.pointer (some ⟨A, 0, none⟩), oV a z p] y (Gives (.int .i64 2) y)) := Lib.hid (fun A y hy => owr_arg hy a z p (.inr hneg))
    obtain ⟨er, her⟩ : ∃ er : Int, er = 2 := ⟨_, rfl⟩
    have HER : Hid (rwE (gS (oS m)) a z p = er) := Lib.hid (her0.trans her.symm)
    have h16b : ¬ a < 16 := by omega
    by_cases hth : thereE (oS m).L (oS m).es (a - 16) 16 = 0
    · obtain ⟨x1_, hx1_⟩ : ∃ x, rdZ (oS m).mm (a - 16).toNat = x := ⟨_, rfl⟩
      obtain ⟨x2_, hx2_⟩ : ∃ x, rdP (oS m).mm (a - 16).toNat = x := ⟨_, rfl⟩
      have HRD : Hid (∀ (A : Nat) (y : World), On A (oS m) y → Calls Try.prog 34 #[.pointer (some ⟨A, 0, none⟩), .int .i64 a] y (Gives (.tuple #[.agg #[.int .i64 a, .int .i64 x1_, .int .i64 x2_], .int .i64 0]) y)) := Lib.hid (fun A y hy => by
        have := ord_there hy a ha.2 h16 hth
        rw [hx1_, hx2_] at this; exact this)
      clear her0 HST HTE ha hz2 hp2 hth hx1_ hx2_ hneg
      go_enter Try.func5, Try.ntmps5
      go_upto_region 1 with fail
      have c := ob_new w a z p
      have bw := Lib.hid (bel1 w (.cells (oC a z p) 66))
      obtain ⟨y0, hy⟩ : ∃ y, w.alloc (.cells (oC a z p) 66) = y := ⟨_, rfl⟩
      obtain ⟨B, hB⟩ : ∃ B, w.heap.size = B := ⟨_, rfl⟩
      rw [hy] at c bw
      rw [hB] at c
      change Code.wp _ _ _ _ (w.alloc (.cells (oC a z p) 66))
      rw [hy, hB]
      have HWB := Lib.hid (show w.heap.size ≤ B by omega)
      clear hy hB
      go_wp2_with fail
      refine (awake14_calls _).mono ?_
      rintro e w1 ⟨rfl, hb⟩
      have HC1 := Lib.hid (show ObjB B a z p w1 from blk_at hb c)
      have HW1 := Lib.hid (bw.out.trans (hb.mono bw.out.size))
      clear hb c bw
      go_wp2_with fail
      refine (on_new 4 _).mono ?_
      rintro e w2 ⟨A, rfl, hA, hx, hb, hmn⟩
      rw [L1.out] at hx
      have HX2 := Lib.hid hx
      have HB2 := Lib.hid (hb.rebase HW1.out)
      have HC2 := Lib.hid (show ObjB B a z p w2 from (hb.bel.block _ (Array.getElem?_eq_some_iff.1 HC1.out).1).trans HC1.out)
      clear hx hb hA hmn HC1 HW1 L1
      go_wp2_with fail
      refine (on_commit HX2.out 0 2 (by omega)).mono ?_
      rintro e w3 ⟨rfl, hx, hg⟩
      rw [E1.out]; rw [S1.out] at hx
      have HX3 := Lib.hid hx
      have HB3 := Lib.hid (HB2.out.went hg)
      have HC3 := Lib.hid (show ObjB B a z p w3 from hg.keep HX2.out HC2.out (by decide) (by decide) (by decide))
      clear hx hg HX2 HB2 HC2 E1 S1
      go_wp2_with fail
      refine (on_commit HX3.out 3 1 (by omega)).mono ?_
      rintro e w4 ⟨rfl, hx, hg⟩
      rw [E2.out]; rw [S2.out] at hx
      have HX4 := Lib.hid hx
      have HB4 := Lib.hid (HB3.out.went hg)
      have HC4 := Lib.hid (show ObjB B a z p w4 from hg.keep HX3.out HC3.out (by decide) (by decide) (by decide))
      clear hx hg HX3 HB3 HC3 E2 S2
      go_wp2_with fail
      refine (on_aput HX4.out 0 (by omega) t ht).mono ?_
      rintro e w5 ⟨rfl, hx, hg⟩
      rw [P1.out]; rw [P2.out] at hx
      have HX5 := Lib.hid hx
      have HB5 := Lib.hid (HB4.out.went hg)
      have HC5 := Lib.hid (show ObjB B a z p w5 from hg.keep HX4.out HC4.out (by decide) (by decide) (by decide))
      clear hx hg HX4 HB4 HC4 P1 P2 htl
      go_wp2_with fail
      refine (on_abytes HX5.out 0 8192 (by omega)).mono ?_
      rintro e w6 ⟨rfl, hb⟩
      rw [HBY.out m, HB8.out m]
      obtain ⟨W, hW⟩ : ∃ W, strL (getM m 0 8192) = W := ⟨_, rfl⟩
      have HW := Lib.hid hW
      have HX6 := Lib.hid (HX5.out.below hb)
      have HB6 := Lib.hid (HB5.out.below HX5.out hb)
      have HC6 := Lib.hid (show ObjB B a z p w6 from blk_at hb HC5.out)
      rw [hW]
      clear hb HX5 HB5 HC5 hW
      go_upto_region 9 with fail
      have hS0 : ObjS B a z p w6.drew := (objs_mk HC6.out).below (Below.refl _ _).drew
      have HX7 := Lib.hid (show On A (oS m) w6.drew from HX6.out.below (Below.refl _ _).drew)
      have HB7 := Lib.hid (show Base A w w6.drew from HB6.out.below HX6.out (Below.refl _ _).drew)
      clear HX6 HB6 HC6
      refine wp_region_held_drew (S := ObjS B a z p) (by kernel_rfl) hS0 (fun hHeld => ?_)
      clear hS0
      refine wpAnyH_take (i := 0) (v := (.pointer (some ⟨A, 0, none⟩))) rfl (by kernel_rfl) (by kernel_rfl) (by kernel_rfl) (fun _ _ _ h => h) (Or.inl ⟨by rfl, fun X hS => ?_⟩) hHeld ?_
      · obtain ⟨s0, s1, s2, s3⟩ := hS
        go_simp
      try simp only [Act.put, List.getElem_toArray, List.getElem_cons_zero, List.getElem_cons_succ, List.setIfInBounds_toArray, List.set_cons_zero, List.set_cons_succ]
      refine wpAnyH_take (i := 2) (v := (.agg #[.int .i64 a, .int .i64 z, .int .i64 p])) rfl (by kernel_rfl) (by kernel_rfl) (by kernel_rfl) (fun _ _ _ h => h) (Or.inl ⟨by rfl, fun X hS => ?_⟩) hHeld ?_
      · obtain ⟨s0, s1, s2, s3⟩ := hS
        go_simp
      try simp only [Act.put, List.getElem_toArray, List.getElem_cons_zero, List.getElem_cons_succ, List.setIfInBounds_toArray, List.set_cons_zero, List.set_cons_succ]
      refine wpAnyH_ready (rs := [1]) (by kernel_rfl) (by simp) (AllReadyH.cons rfl (fun K1 hK1 => ?_) AllReadyH.nil)
      go_simp
      refine (dof_any HX7.out (by show (4 : Nat) ≤ 8; omega)).mono ?_
      rintro e x1 ⟨b, rfl, hd, hb⟩
      have HX8 := Lib.hid (HX7.out.below hb)
      have HB9 := Lib.hid (HB7.out.below HX7.out hb)
      have HD8 := Lib.hid hd
      have hS1 := hHeld.below hb
      clear hHeld hb hd HX7 HB7
      refine hK1.out _ _ hS1 (fun hHeld => ?_)
      clear hK1 hS1
      try simp only [Act.put, List.getElem_toArray, List.getElem_cons_zero, List.getElem_cons_succ, List.setIfInBounds_toArray, List.set_cons_zero, List.set_cons_succ]
      refine wpAnyH_ready (rs := [3]) (by kernel_rfl) (by simp) (AllReadyH.cons rfl (fun K2 hK2 => ?_) AllReadyH.nil)
      go_simp
      refine (HRW.out b x1 HD8.out).mono ?_
      rintro e x2 ⟨rfl, hb⟩
      rw [HER.out]
      have HXR := Lib.hid (HX8.out.below hb)
      have HBR := Lib.hid (HB9.out.below HX8.out hb)
      have hS2 := hHeld.below hb
      have HCR := Lib.hid hS2.2.2.2
      clear hHeld hb HX8 HB9 HD8
      refine hK2.out _ _ hS2 (fun hHeld => ?_)
      clear hK2 hS2
      try simp only [Act.put, List.getElem_toArray, List.getElem_cons_zero, List.getElem_cons_succ, List.setIfInBounds_toArray, List.set_cons_zero, List.set_cons_succ]
      refine wpAnyH_take (i := 4) (v := (.int .i64 er)) rfl (by kernel_rfl) (by kernel_rfl) (by kernel_rfl) (fun _ _ _ h => h) (Or.inl ⟨by rfl, fun X hS => ?_⟩) hHeld ?_
      · obtain ⟨s0, s1, s2, s3⟩ := hS
        go_simp
      try simp only [Act.put, List.getElem_toArray, List.getElem_cons_zero, List.getElem_cons_succ, List.setIfInBounds_toArray, List.set_cons_zero, List.set_cons_succ]
      refine wpAnyH_done (by kernel_rfl) ?_ _
      clear hHeld
      subst her
      obtain ⟨c0, c1, c2⟩ := HCR.out.all
      go_wp2_with fail
      refine (HWR.out _ _ HXR.out).mono ?_
      rintro e w8 ⟨rfl, hb⟩
      have HX8 := Lib.hid (HXR.out.below hb)
      have HB8_ := Lib.hid (HBR.out.below HXR.out hb)
      have HC8 := Lib.hid (show ObjB B a z p w8 from blk_at hb HCR.out)
      clear hb HXR HBR HCR c0 c1 c2
      obtain ⟨c0, c1, c2⟩ := HC8.out.all
      go_wp2_with fail
      refine (HRD.out _ _ HX8.out).mono ?_
      rintro e w9 ⟨rfl, hb⟩
      have HX9 := Lib.hid (HX8.out.below hb)
      have HB9 := Lib.hid (HB8_.out.below HX8.out hb)
      have HC9 := Lib.hid (show ObjB B a z p w9 from blk_at hb HC8.out)
      clear hb HX8 HB8_ HC8 c0 c1 c2
      go_upto_region 12 with fail
      have hd := ob_new w9 a x1_ x2_
      have hb := (bel1 w9 (.cells (oC a x1_ x2_) 66))
      have hc := show ObjB B a z p (w9.alloc (.cells (oC a x1_ x2_) 66)) from blk_at hb HC9.out
      have hX := HX9.out.below hb
      have hB := HB9.out.below HX9.out hb
      obtain ⟨y1, hy⟩ : ∃ y, w9.alloc (.cells (oC a x1_ x2_) 66) = y := ⟨_, rfl⟩
      obtain ⟨C, hC⟩ : ∃ C, w9.heap.size = C := ⟨_, rfl⟩
      rw [hy] at hd hc hB hX
      rw [hC] at hd
      change Code.wp _ _ _ _ (w9.alloc (.cells (oC a x1_ x2_) 66))
      rw [hy, hC]
      have HCA := Lib.hid hc; have HDA := Lib.hid hd; have HBA := Lib.hid hB; have HXA := Lib.hid hX
      clear hy hC hc hd hB hb hX HX9 HB9 HC9
      go_wp2_with fail
      refine (on_abytes HXA.out 0 8192 (by omega)).mono ?_
      rintro e w11 ⟨rfl, hb⟩
      rw [HBY.out m, HB8.out m, HW.out]
      have HBB := Lib.hid (HBA.out.below HXA.out hb)
      have HCB := Lib.hid (show ObjB B a z p w11 from blk_at hb HCA.out)
      have HDB := Lib.hid (show ObjB C a x1_ x2_ w11 from blk_at hb HDA.out)
      clear hb HBA HXA HCA HDA
      obtain ⟨c0, c1, c2⟩ := HCB.out.all
      obtain ⟨d0, d1, d2⟩ := HDB.out.all
      go_wp2_with fail
      go_ret
      first
        | exact ⟨rfl, HBB.out.bel⟩
        | exact ⟨by simp [h16b], HBB.out.bel⟩
    · have HRD : Hid (∀ (A : Nat) (y : World), On A (oS m) y → Calls Try.prog 34 #[.pointer (some ⟨A, 0, none⟩), .int .i64 a] y (Gives (.tuple #[.agg #[.int .i64 0, .int .i64 0, .int .i64 0], .int .i64 3]) y)) := Lib.hid (fun A y hy => ord_range hy a ha.2 h16 hth)
      clear her0 HST HTE ha hz2 hp2 hth hneg
      go_enter Try.func5, Try.ntmps5
      go_upto_region 1 with fail
      have c := ob_new w a z p
      have bw := Lib.hid (bel1 w (.cells (oC a z p) 66))
      obtain ⟨y0, hy⟩ : ∃ y, w.alloc (.cells (oC a z p) 66) = y := ⟨_, rfl⟩
      obtain ⟨B, hB⟩ : ∃ B, w.heap.size = B := ⟨_, rfl⟩
      rw [hy] at c bw
      rw [hB] at c
      change Code.wp _ _ _ _ (w.alloc (.cells (oC a z p) 66))
      rw [hy, hB]
      have HWB := Lib.hid (show w.heap.size ≤ B by omega)
      clear hy hB
      go_wp2_with fail
      refine (awake14_calls _).mono ?_
      rintro e w1 ⟨rfl, hb⟩
      have HC1 := Lib.hid (show ObjB B a z p w1 from blk_at hb c)
      have HW1 := Lib.hid (bw.out.trans (hb.mono bw.out.size))
      clear hb c bw
      go_wp2_with fail
      refine (on_new 4 _).mono ?_
      rintro e w2 ⟨A, rfl, hA, hx, hb, hmn⟩
      rw [L1.out] at hx
      have HX2 := Lib.hid hx
      have HB2 := Lib.hid (hb.rebase HW1.out)
      have HC2 := Lib.hid (show ObjB B a z p w2 from (hb.bel.block _ (Array.getElem?_eq_some_iff.1 HC1.out).1).trans HC1.out)
      clear hx hb hA hmn HC1 HW1 L1
      go_wp2_with fail
      refine (on_commit HX2.out 0 2 (by omega)).mono ?_
      rintro e w3 ⟨rfl, hx, hg⟩
      rw [E1.out]; rw [S1.out] at hx
      have HX3 := Lib.hid hx
      have HB3 := Lib.hid (HB2.out.went hg)
      have HC3 := Lib.hid (show ObjB B a z p w3 from hg.keep HX2.out HC2.out (by decide) (by decide) (by decide))
      clear hx hg HX2 HB2 HC2 E1 S1
      go_wp2_with fail
      refine (on_commit HX3.out 3 1 (by omega)).mono ?_
      rintro e w4 ⟨rfl, hx, hg⟩
      rw [E2.out]; rw [S2.out] at hx
      have HX4 := Lib.hid hx
      have HB4 := Lib.hid (HB3.out.went hg)
      have HC4 := Lib.hid (show ObjB B a z p w4 from hg.keep HX3.out HC3.out (by decide) (by decide) (by decide))
      clear hx hg HX3 HB3 HC3 E2 S2
      go_wp2_with fail
      refine (on_aput HX4.out 0 (by omega) t ht).mono ?_
      rintro e w5 ⟨rfl, hx, hg⟩
      rw [P1.out]; rw [P2.out] at hx
      have HX5 := Lib.hid hx
      have HB5 := Lib.hid (HB4.out.went hg)
      have HC5 := Lib.hid (show ObjB B a z p w5 from hg.keep HX4.out HC4.out (by decide) (by decide) (by decide))
      clear hx hg HX4 HB4 HC4 P1 P2 htl
      go_wp2_with fail
      refine (on_abytes HX5.out 0 8192 (by omega)).mono ?_
      rintro e w6 ⟨rfl, hb⟩
      rw [HBY.out m, HB8.out m]
      obtain ⟨W, hW⟩ : ∃ W, strL (getM m 0 8192) = W := ⟨_, rfl⟩
      have HW := Lib.hid hW
      have HX6 := Lib.hid (HX5.out.below hb)
      have HB6 := Lib.hid (HB5.out.below HX5.out hb)
      have HC6 := Lib.hid (show ObjB B a z p w6 from blk_at hb HC5.out)
      rw [hW]
      clear hb HX5 HB5 HC5 hW
      go_upto_region 9 with fail
      have hS0 : ObjS B a z p w6.drew := (objs_mk HC6.out).below (Below.refl _ _).drew
      have HX7 := Lib.hid (show On A (oS m) w6.drew from HX6.out.below (Below.refl _ _).drew)
      have HB7 := Lib.hid (show Base A w w6.drew from HB6.out.below HX6.out (Below.refl _ _).drew)
      clear HX6 HB6 HC6
      refine wp_region_held_drew (S := ObjS B a z p) (by kernel_rfl) hS0 (fun hHeld => ?_)
      clear hS0
      refine wpAnyH_take (i := 0) (v := (.pointer (some ⟨A, 0, none⟩))) rfl (by kernel_rfl) (by kernel_rfl) (by kernel_rfl) (fun _ _ _ h => h) (Or.inl ⟨by rfl, fun X hS => ?_⟩) hHeld ?_
      · obtain ⟨s0, s1, s2, s3⟩ := hS
        go_simp
      try simp only [Act.put, List.getElem_toArray, List.getElem_cons_zero, List.getElem_cons_succ, List.setIfInBounds_toArray, List.set_cons_zero, List.set_cons_succ]
      refine wpAnyH_take (i := 2) (v := (.agg #[.int .i64 a, .int .i64 z, .int .i64 p])) rfl (by kernel_rfl) (by kernel_rfl) (by kernel_rfl) (fun _ _ _ h => h) (Or.inl ⟨by rfl, fun X hS => ?_⟩) hHeld ?_
      · obtain ⟨s0, s1, s2, s3⟩ := hS
        go_simp
      try simp only [Act.put, List.getElem_toArray, List.getElem_cons_zero, List.getElem_cons_succ, List.setIfInBounds_toArray, List.set_cons_zero, List.set_cons_succ]
      refine wpAnyH_ready (rs := [1]) (by kernel_rfl) (by simp) (AllReadyH.cons rfl (fun K1 hK1 => ?_) AllReadyH.nil)
      go_simp
      refine (dof_any HX7.out (by show (4 : Nat) ≤ 8; omega)).mono ?_
      rintro e x1 ⟨b, rfl, hd, hb⟩
      have HX8 := Lib.hid (HX7.out.below hb)
      have HB9 := Lib.hid (HB7.out.below HX7.out hb)
      have HD8 := Lib.hid hd
      have hS1 := hHeld.below hb
      clear hHeld hb hd HX7 HB7
      refine hK1.out _ _ hS1 (fun hHeld => ?_)
      clear hK1 hS1
      try simp only [Act.put, List.getElem_toArray, List.getElem_cons_zero, List.getElem_cons_succ, List.setIfInBounds_toArray, List.set_cons_zero, List.set_cons_succ]
      refine wpAnyH_ready (rs := [3]) (by kernel_rfl) (by simp) (AllReadyH.cons rfl (fun K2 hK2 => ?_) AllReadyH.nil)
      go_simp
      refine (HRW.out b x1 HD8.out).mono ?_
      rintro e x2 ⟨rfl, hb⟩
      rw [HER.out]
      have HXR := Lib.hid (HX8.out.below hb)
      have HBR := Lib.hid (HB9.out.below HX8.out hb)
      have hS2 := hHeld.below hb
      have HCR := Lib.hid hS2.2.2.2
      clear hHeld hb HX8 HB9 HD8
      refine hK2.out _ _ hS2 (fun hHeld => ?_)
      clear hK2 hS2
      try simp only [Act.put, List.getElem_toArray, List.getElem_cons_zero, List.getElem_cons_succ, List.setIfInBounds_toArray, List.set_cons_zero, List.set_cons_succ]
      refine wpAnyH_take (i := 4) (v := (.int .i64 er)) rfl (by kernel_rfl) (by kernel_rfl) (by kernel_rfl) (fun _ _ _ h => h) (Or.inl ⟨by rfl, fun X hS => ?_⟩) hHeld ?_
      · obtain ⟨s0, s1, s2, s3⟩ := hS
        go_simp
      try simp only [Act.put, List.getElem_toArray, List.getElem_cons_zero, List.getElem_cons_succ, List.setIfInBounds_toArray, List.set_cons_zero, List.set_cons_succ]
      refine wpAnyH_done (by kernel_rfl) ?_ _
      clear hHeld
      subst her
      obtain ⟨c0, c1, c2⟩ := HCR.out.all
      go_wp2_with fail
      refine (HWR.out _ _ HXR.out).mono ?_
      rintro e w8 ⟨rfl, hb⟩
      have HX8 := Lib.hid (HXR.out.below hb)
      have HB8_ := Lib.hid (HBR.out.below HXR.out hb)
      have HC8 := Lib.hid (show ObjB B a z p w8 from blk_at hb HCR.out)
      clear hb HXR HBR HCR c0 c1 c2
      obtain ⟨c0, c1, c2⟩ := HC8.out.all
      go_wp2_with fail
      refine (HRD.out _ _ HX8.out).mono ?_
      rintro e w9 ⟨rfl, hb⟩
      have HX9 := Lib.hid (HX8.out.below hb)
      have HB9 := Lib.hid (HB8_.out.below HX8.out hb)
      have HC9 := Lib.hid (show ObjB B a z p w9 from blk_at hb HC8.out)
      clear hb HX8 HB8_ HC8 c0 c1 c2
      go_upto_region 12 with fail
      have hd := ob_new w9 0 0 0
      have hb := (bel1 w9 (.cells (oC 0 0 0) 66))
      have hc := show ObjB B a z p (w9.alloc (.cells (oC 0 0 0) 66)) from blk_at hb HC9.out
      have hX := HX9.out.below hb
      have hB := HB9.out.below HX9.out hb
      obtain ⟨y1, hy⟩ : ∃ y, w9.alloc (.cells (oC 0 0 0) 66) = y := ⟨_, rfl⟩
      obtain ⟨C, hC⟩ : ∃ C, w9.heap.size = C := ⟨_, rfl⟩
      rw [hy] at hd hc hB hX
      rw [hC] at hd
      change Code.wp _ _ _ _ (w9.alloc (.cells (oC 0 0 0) 66))
      rw [hy, hC]
      have HCA := Lib.hid hc; have HDA := Lib.hid hd; have HBA := Lib.hid hB; have HXA := Lib.hid hX
      clear hy hC hc hd hB hb hX HX9 HB9 HC9
      go_wp2_with fail
      refine (on_abytes HXA.out 0 8192 (by omega)).mono ?_
      rintro e w11 ⟨rfl, hb⟩
      rw [HBY.out m, HB8.out m, HW.out]
      have HBB := Lib.hid (HBA.out.below HXA.out hb)
      have HCB := Lib.hid (show ObjB B a z p w11 from blk_at hb HCA.out)
      have HDB := Lib.hid (show ObjB C 0 0 0 w11 from blk_at hb HDA.out)
      clear hb HBA HXA HCA HDA
      obtain ⟨c0, c1, c2⟩ := HCB.out.all
      obtain ⟨d0, d1, d2⟩ := HDB.out.all
      go_wp2_with fail
      go_ret
      first
        | exact ⟨rfl, HBB.out.bel⟩
        | exact ⟨by simp [h16b], HBB.out.bel⟩
  · have h16b : ¬ a < 16 := by omega
    by_cases hth : thereE (oS m).L (oS m).es (a - 16) 16 = 0
    · have her1 : rwE (gS (oS m)) a z p = 0 := by
        rw [her0, HTE.out]
        unfold thereE at hth
        cases e : thereB (oS m).L (oS m).es (a - 16) 16 with
        | true => rfl
        | false => rw [e] at hth; exact absurd hth (by decide)
      obtain ⟨er, her⟩ : ∃ er : Int, er = 0 := ⟨_, rfl⟩
      have HER : Hid (rwE (gS (oS m)) a z p = er) := Lib.hid (her1.trans her.symm)
      obtain ⟨cn, hcn⟩ := Int.eq_ofNat_of_zero_le (show 0 ≤ a by omega)
      obtain ⟨an, han⟩ := Int.eq_ofNat_of_zero_le (show 0 ≤ a - 16 by omega)
      obtain ⟨m2, hm2⟩ : ∃ m2, woM m an z p = m2 := ⟨_, rfl⟩
      have HWR : Hid (∀ (A : Nat) (y : World), On A (oS m) y → Calls Try.prog 33 #[.pointer (some ⟨A, 0, none⟩), oV a z p] y (Ret A (oS m2) (.int .i64 0) y)) := Lib.hid (fun A y hy => by
        have := owr_ok hy a z p ha.2 h16 ⟨hz, hz2⟩ ⟨hp, hp2⟩ hth
        rw [han, Int.toNat_natCast] at this
        rw [← hm2]; exact this)
      have HRD : Hid (∀ (A : Nat) (y : World), On A (oS m2) y → Calls Try.prog 34 #[.pointer (some ⟨A, 0, none⟩), .int .i64 a] y (Gives (.tuple #[.agg #[.int .i64 a, .int .i64 z, .int .i64 p], .int .i64 0]) y)) := Lib.hid (fun A y hy => by
        have := ord_there hy a ha.2 h16 hth
        obtain ⟨r1, r2⟩ := rd_wo m an z p ⟨hz, hz2⟩ ⟨hp, hp2⟩
        rw [hm2] at r1 r2
        rw [han, Int.toNat_natCast, show (oS m2).mm = m2 from rfl, r1, r2] at this
        exact this)
      have HNR : Hid (∀ y : World, Calls Try.prog 34 #[.pointer none, .int .i64 0] y (Gives (.tuple #[.agg #[.int .i64 0, .int .i64 0, .int .i64 0], .int .i64 1]) y)) := Lib.hid (fun y => ord_nil 0 y)
      have HNW := Lib.hid (fun y : World => owr_nil a z p y)
      have hout : ∀ i, i < an ∨ an + 16 ≤ i → m2 i = m i := fun i hi => by rw [← hm2]; exact woM_out m an z p i hi
      have HQ : Hid (IntKind.i64.wrap (a - 16) = (an : Int)) := Lib.hid (by rw [han]; exact IntWalk.i64_in _ (by omega))
      have HNS : Hid ((strL (getM m2 0 8192)).size = 8192) := Lib.hid (by rw [strL_size, getM_length])
      have HWS : Hid ((strL (getM m 0 8192)).size = 8192) := Lib.hid (by rw [strL_size, getM_length])
      obtain ⟨N, hN⟩ : ∃ N, strL (getM m2 0 8192) = N := ⟨_, rfl⟩
      have HN := Lib.hid hN
      have HZN : Hid (N.size = 8192) := Lib.hid (by rw [← hN]; exact HNS.out)
      by_cases hsm : a ≤ 8192
      · have HE1_ : Hid (N.extract 0 an = (strL (getM m 0 8192)).extract 0 an) := Lib.hid (by rw [← hN]; exact bytes_cut _ _ _ _ _ (by omega) fun k _ h2 => hout k (by omega))
        have HE2_ : Hid (N.extract cn 8192 = (strL (getM m 0 8192)).extract cn 8192) := Lib.hid (by rw [← hN]; exact bytes_cut _ _ _ _ _ (by omega) fun k h1 _ => hout k (by omega))
        have HAN := Lib.hid (show an ≤ 8176 by omega)
        have HCN := Lib.hid (show cn ≤ 8192 by omega)
        clear her0 her1 HST HTE ha hz2 hp2 hth hz hp hout hm2 hN han
        subst hcn
        go_enter Try.func5, Try.ntmps5
        go_upto_region 1 with fail
        have c := ob_new w (cn : Int) z p
        have bw := Lib.hid (bel1 w (.cells (oC (cn : Int) z p) 66))
        obtain ⟨y0, hy⟩ : ∃ y, w.alloc (.cells (oC (cn : Int) z p) 66) = y := ⟨_, rfl⟩
        obtain ⟨B, hB⟩ : ∃ B, w.heap.size = B := ⟨_, rfl⟩
        rw [hy] at c bw
        rw [hB] at c
        change Code.wp _ _ _ _ (w.alloc (.cells (oC (cn : Int) z p) 66))
        rw [hy, hB]
        have HWB := Lib.hid (show w.heap.size ≤ B by omega)
        clear hy hB
        go_wp2_with fail
        refine (awake14_calls _).mono ?_
        rintro e w1 ⟨rfl, hb⟩
        have HC1 := Lib.hid (show ObjB B (cn : Int) z p w1 from blk_at hb c)
        have HW1 := Lib.hid (bw.out.trans (hb.mono bw.out.size))
        clear hb c bw
        go_wp2_with fail
        refine (on_new 4 _).mono ?_
        rintro e w2 ⟨A, rfl, hA, hx, hb, hmn⟩
        rw [L1.out] at hx
        have HX2 := Lib.hid hx
        have HB2 := Lib.hid (hb.rebase HW1.out)
        have HC2 := Lib.hid (show ObjB B (cn : Int) z p w2 from (hb.bel.block _ (Array.getElem?_eq_some_iff.1 HC1.out).1).trans HC1.out)
        clear hx hb hA hmn HC1 HW1 L1
        go_wp2_with fail
        refine (on_commit HX2.out 0 2 (by omega)).mono ?_
        rintro e w3 ⟨rfl, hx, hg⟩
        rw [E1.out]; rw [S1.out] at hx
        have HX3 := Lib.hid hx
        have HB3 := Lib.hid (HB2.out.went hg)
        have HC3 := Lib.hid (show ObjB B (cn : Int) z p w3 from hg.keep HX2.out HC2.out (by decide) (by decide) (by decide))
        clear hx hg HX2 HB2 HC2 E1 S1
        go_wp2_with fail
        refine (on_commit HX3.out 3 1 (by omega)).mono ?_
        rintro e w4 ⟨rfl, hx, hg⟩
        rw [E2.out]; rw [S2.out] at hx
        have HX4 := Lib.hid hx
        have HB4 := Lib.hid (HB3.out.went hg)
        have HC4 := Lib.hid (show ObjB B (cn : Int) z p w4 from hg.keep HX3.out HC3.out (by decide) (by decide) (by decide))
        clear hx hg HX3 HB3 HC3 E2 S2
        go_wp2_with fail
        refine (on_aput HX4.out 0 (by omega) t ht).mono ?_
        rintro e w5 ⟨rfl, hx, hg⟩
        rw [P1.out]; rw [P2.out] at hx
        have HX5 := Lib.hid hx
        have HB5 := Lib.hid (HB4.out.went hg)
        have HC5 := Lib.hid (show ObjB B (cn : Int) z p w5 from hg.keep HX4.out HC4.out (by decide) (by decide) (by decide))
        clear hx hg HX4 HB4 HC4 P1 P2 htl
        go_wp2_with fail
        refine (on_abytes HX5.out 0 8192 (by omega)).mono ?_
        rintro e w6 ⟨rfl, hb⟩
        rw [HBY.out m, HB8.out m]
        obtain ⟨W, hW⟩ : ∃ W, strL (getM m 0 8192) = W := ⟨_, rfl⟩
        have HW := Lib.hid hW
        have HE1 : Hid (N.extract 0 an = W.extract 0 an) := Lib.hid (by rw [← hW]; exact HE1_.out)
        have HE2 : Hid (N.extract cn 8192 = W.extract cn 8192) := Lib.hid (by rw [← hW]; exact HE2_.out)
        have HZW : Hid (W.size = 8192) := Lib.hid (by rw [← hW]; exact HWS.out)
        clear HE1_ HE2_ HWS
        have HX6 := Lib.hid (HX5.out.below hb)
        have HB6 := Lib.hid (HB5.out.below HX5.out hb)
        have HC6 := Lib.hid (show ObjB B (cn : Int) z p w6 from blk_at hb HC5.out)
        rw [hW]
        clear hb HX5 HB5 HC5 hW
        go_upto_region 9 with fail
        have hS0 : ObjS B (cn : Int) z p w6.drew := (objs_mk HC6.out).below (Below.refl _ _).drew
        have HX7 := Lib.hid (show On A (oS m) w6.drew from HX6.out.below (Below.refl _ _).drew)
        have HB7 := Lib.hid (show Base A w w6.drew from HB6.out.below HX6.out (Below.refl _ _).drew)
        clear HX6 HB6 HC6
        refine wp_region_held_drew (S := ObjS B (cn : Int) z p) (by kernel_rfl) hS0 (fun hHeld => ?_)
        clear hS0
        refine wpAnyH_take (i := 0) (v := (.pointer (some ⟨A, 0, none⟩))) rfl (by kernel_rfl) (by kernel_rfl) (by kernel_rfl) (fun _ _ _ h => h) (Or.inl ⟨by rfl, fun X hS => ?_⟩) hHeld ?_
        · obtain ⟨s0, s1, s2, s3⟩ := hS
          go_simp
        try simp only [Act.put, List.getElem_toArray, List.getElem_cons_zero, List.getElem_cons_succ, List.setIfInBounds_toArray, List.set_cons_zero, List.set_cons_succ]
        refine wpAnyH_take (i := 2) (v := (.agg #[.int .i64 (cn : Int), .int .i64 z, .int .i64 p])) rfl (by kernel_rfl) (by kernel_rfl) (by kernel_rfl) (fun _ _ _ h => h) (Or.inl ⟨by rfl, fun X hS => ?_⟩) hHeld ?_
        · obtain ⟨s0, s1, s2, s3⟩ := hS
          go_simp
        try simp only [Act.put, List.getElem_toArray, List.getElem_cons_zero, List.getElem_cons_succ, List.setIfInBounds_toArray, List.set_cons_zero, List.set_cons_succ]
        refine wpAnyH_ready (rs := [1]) (by kernel_rfl) (by simp) (AllReadyH.cons rfl (fun K1 hK1 => ?_) AllReadyH.nil)
        go_simp
        refine (dof_any HX7.out (by show (4 : Nat) ≤ 8; omega)).mono ?_
        rintro e x1 ⟨b, rfl, hd, hb⟩
        have HX8 := Lib.hid (HX7.out.below hb)
        have HB9 := Lib.hid (HB7.out.below HX7.out hb)
        have HD8 := Lib.hid hd
        have hS1 := hHeld.below hb
        clear hHeld hb hd HX7 HB7
        refine hK1.out _ _ hS1 (fun hHeld => ?_)
        clear hK1 hS1
        try simp only [Act.put, List.getElem_toArray, List.getElem_cons_zero, List.getElem_cons_succ, List.setIfInBounds_toArray, List.set_cons_zero, List.set_cons_succ]
        refine wpAnyH_ready (rs := [3]) (by kernel_rfl) (by simp) (AllReadyH.cons rfl (fun K2 hK2 => ?_) AllReadyH.nil)
        go_simp
        refine (HRW.out b x1 HD8.out).mono ?_
        rintro e x2 ⟨rfl, hb⟩
        rw [HER.out]
        have HXR := Lib.hid (HX8.out.below hb)
        have HBR := Lib.hid (HB9.out.below HX8.out hb)
        have hS2 := hHeld.below hb
        have HCR := Lib.hid hS2.2.2.2
        clear hHeld hb HX8 HB9 HD8
        refine hK2.out _ _ hS2 (fun hHeld => ?_)
        clear hK2 hS2
        try simp only [Act.put, List.getElem_toArray, List.getElem_cons_zero, List.getElem_cons_succ, List.setIfInBounds_toArray, List.set_cons_zero, List.set_cons_succ]
        refine wpAnyH_take (i := 4) (v := (.int .i64 er)) rfl (by kernel_rfl) (by kernel_rfl) (by kernel_rfl) (fun _ _ _ h => h) (Or.inl ⟨by rfl, fun X hS => ?_⟩) hHeld ?_
        · obtain ⟨s0, s1, s2, s3⟩ := hS
          go_simp
        try simp only [Act.put, List.getElem_toArray, List.getElem_cons_zero, List.getElem_cons_succ, List.setIfInBounds_toArray, List.set_cons_zero, List.set_cons_succ]
        refine wpAnyH_done (by kernel_rfl) ?_ _
        clear hHeld
        subst her
        obtain ⟨c0, c1, c2⟩ := HCR.out.all
        go_wp2_with fail
        refine (HWR.out _ _ HXR.out).mono ?_
        rintro e w8 ⟨rfl, hx, hg⟩
        have HX8 := Lib.hid hx
        have HB8_ := Lib.hid (HBR.out.went hg)
        have HC8 := Lib.hid (show ObjB B (cn : Int) z p w8 from hg.keep HXR.out HCR.out (by decide) (by decide) (by decide))
        clear hx hg HXR HBR HCR c0 c1 c2
        obtain ⟨c0, c1, c2⟩ := HC8.out.all
        go_wp2_with fail
        refine (HRD.out _ _ HX8.out).mono ?_
        rintro e w9 ⟨rfl, hb⟩
        have HX9 := Lib.hid (HX8.out.below hb)
        have HB9 := Lib.hid (HB8_.out.below HX8.out hb)
        have HC9 := Lib.hid (show ObjB B (cn : Int) z p w9 from blk_at hb HC8.out)
        clear hb HX8 HB8_ HC8 c0 c1 c2
        go_upto_region 12 with fail
        have hd := ob_new w9 (cn : Int) z p
        have hb := (bel1 w9 (.cells (oC (cn : Int) z p) 66))
        have hc := show ObjB B (cn : Int) z p (w9.alloc (.cells (oC (cn : Int) z p) 66)) from blk_at hb HC9.out
        have hX := HX9.out.below hb
        have hB := HB9.out.below HX9.out hb
        obtain ⟨y1, hy⟩ : ∃ y, w9.alloc (.cells (oC (cn : Int) z p) 66) = y := ⟨_, rfl⟩
        obtain ⟨C, hC⟩ : ∃ C, w9.heap.size = C := ⟨_, rfl⟩
        rw [hy] at hd hc hB hX
        rw [hC] at hd
        change Code.wp _ _ _ _ (w9.alloc (.cells (oC (cn : Int) z p) 66))
        rw [hy, hC]
        have HCA := Lib.hid hc; have HDA := Lib.hid hd; have HBA := Lib.hid hB; have HXA := Lib.hid hX
        clear hy hC hc hd hB hb hX HX9 HB9 HC9
        go_wp2_with fail
        refine (on_abytes HXA.out 0 8192 (by omega)).mono ?_
        rintro e w11 ⟨rfl, hb⟩
        rw [HBY.out m2, HB8.out m2, HN.out]
        have HBB := Lib.hid (HBA.out.below HXA.out hb)
        have HCB := Lib.hid (show ObjB B (cn : Int) z p w11 from blk_at hb HCA.out)
        have HDB := Lib.hid (show ObjB C (cn : Int) z p w11 from blk_at hb HDA.out)
        clear hb HBA HXA HCA HDA
        go_upto_region 17 with fail
        have hS0 : OTwo B C (cn : Int) z p w11.drew := (otwo_mk HCB.out HDB.out).below (Below.refl _ _).drew
        have HBC := Lib.hid (show Below w.heap.size w w11.drew from HBB.out.bel.drew)
        clear HBB HCB HDB
        refine wp_region_held_drew (S := OTwo B C (cn : Int) z p) (by kernel_rfl) hS0 (fun hHeld => ?_)
        have HSS := Lib.hid hS0
        clear hS0
        refine wpAnyH_take (i := 0) (v := (.pointer (some ⟨B, 0, none⟩))) rfl (by kernel_rfl) (by kernel_rfl) (by kernel_rfl) (fun _ _ _ h => h) (Or.inl ⟨by rfl, fun X hS => ?_⟩) hHeld ?_
        · obtain ⟨s0, s1, s2, s3, s4, s5, s6, s7⟩ := hS
          go_simp
        try simp only [Act.put, List.getElem_toArray, List.getElem_cons_zero, List.getElem_cons_succ, List.setIfInBounds_toArray, List.set_cons_zero, List.set_cons_succ]
        refine wpAnyH_take (i := 1) (v := (.int .i64 (cn : Int))) rfl (by kernel_rfl) (by kernel_rfl) (by kernel_rfl) (fun _ _ _ h => h) (Or.inl ⟨by rfl, fun X hS => ?_⟩) hHeld ?_
        · obtain ⟨s0, s1, s2, s3, s4, s5, s6, s7⟩ := hS
          go_simp
        try simp only [Act.put, List.getElem_toArray, List.getElem_cons_zero, List.getElem_cons_succ, List.setIfInBounds_toArray, List.set_cons_zero, List.set_cons_succ]
        refine wpAnyH_take (i := 2) (v := (.bool true)) rfl (by kernel_rfl) (by kernel_rfl) (by kernel_rfl) (fun _ _ _ h => h) (Or.inl ⟨by rfl, fun X hS => ?_⟩) hHeld ?_
        · obtain ⟨s0, s1, s2, s3, s4, s5, s6, s7⟩ := hS
          go_simp
        try simp only [Act.put, List.getElem_toArray, List.getElem_cons_zero, List.getElem_cons_succ, List.setIfInBounds_toArray, List.set_cons_zero, List.set_cons_succ]
        refine wpAnyH_take (i := 3) (v := (.bool true)) rfl (by kernel_rfl) (by kernel_rfl) (by kernel_rfl) (fun _ _ _ h => h) (Or.inl ⟨by rfl, fun X hS => ?_⟩) hHeld ?_
        · obtain ⟨s0, s1, s2, s3, s4, s5, s6, s7⟩ := hS
          go_simp
        try simp only [Act.put, List.getElem_toArray, List.getElem_cons_zero, List.getElem_cons_succ, List.setIfInBounds_toArray, List.set_cons_zero, List.set_cons_succ]
        refine wpAnyH_take (i := 4) (v := (.string N)) rfl (by kernel_rfl) (by kernel_rfl) (by kernel_rfl) (fun _ _ _ h => h) (Or.inl ⟨by rfl, fun X hS => ?_⟩) hHeld ?_
        · obtain ⟨s0, s1, s2, s3, s4, s5, s6, s7⟩ := hS
          go_simp
        try simp only [Act.put, List.getElem_toArray, List.getElem_cons_zero, List.getElem_cons_succ, List.setIfInBounds_toArray, List.set_cons_zero, List.set_cons_succ]
        refine wpAnyH_take (i := 5) (v := (.pointer (some ⟨B, 0, none⟩))) rfl (by kernel_rfl) (by kernel_rfl) (by kernel_rfl) (fun _ _ _ h => h) (Or.inl ⟨by rfl, fun X hS => ?_⟩) hHeld ?_
        · obtain ⟨s0, s1, s2, s3, s4, s5, s6, s7⟩ := hS
          go_simp
        try simp only [Act.put, List.getElem_toArray, List.getElem_cons_zero, List.getElem_cons_succ, List.setIfInBounds_toArray, List.set_cons_zero, List.set_cons_succ]
        refine wpAnyH_take (i := 6) (v := (.int .i64 (cn : Int))) rfl (by kernel_rfl) (by kernel_rfl) (by kernel_rfl) (fun _ _ _ h => h) (Or.inl ⟨by rfl, fun X hS => ?_⟩) hHeld ?_
        · obtain ⟨s0, s1, s2, s3, s4, s5, s6, s7⟩ := hS
          go_simp
        try simp only [Act.put, List.getElem_toArray, List.getElem_cons_zero, List.getElem_cons_succ, List.setIfInBounds_toArray, List.set_cons_zero, List.set_cons_succ]
        refine wpAnyH_take (i := 7) (v := (.int .i64 (an : Int))) rfl (by kernel_rfl) (by kernel_rfl) (by kernel_rfl) (fun _ _ _ h => h) (Or.inl ⟨by rfl, fun X hS => ?_⟩) hHeld ?_
        · obtain ⟨s0, s1, s2, s3, s4, s5, s6, s7⟩ := hS
          have hq := HQ.out
          go_simp
        try simp only [Act.put, List.getElem_toArray, List.getElem_cons_zero, List.getElem_cons_succ, List.setIfInBounds_toArray, List.set_cons_zero, List.set_cons_succ]
        refine wpAnyH_take (i := 8) (v := (.string (N.extract 0 an))) rfl (by kernel_rfl) (by kernel_rfl) (by kernel_rfl) (fun _ _ _ h => h) (Or.inl ⟨by rfl, fun X hS => ?_⟩) hHeld ?_
        · obtain ⟨s0, s1, s2, s3, s4, s5, s6, s7⟩ := hS
          have hzn := HZN.out; have hzw := HZW.out; have han := HAN.out; have hk1 : (0 : Int) ≤ an := (by omega); have hk2 : (an : Int) ≤ 8192 := (by omega); have hk4 : ¬ (8192 < (an : Int)) := (by omega)
          go_simp
        try simp only [Act.put, List.getElem_toArray, List.getElem_cons_zero, List.getElem_cons_succ, List.setIfInBounds_toArray, List.set_cons_zero, List.set_cons_succ]
        refine wpAnyH_take (i := 9) (v := (.string W)) rfl (by kernel_rfl) (by kernel_rfl) (by kernel_rfl) (fun _ _ _ h => h) (Or.inl ⟨by rfl, fun X hS => ?_⟩) hHeld ?_
        · obtain ⟨s0, s1, s2, s3, s4, s5, s6, s7⟩ := hS
          go_simp
        try simp only [Act.put, List.getElem_toArray, List.getElem_cons_zero, List.getElem_cons_succ, List.setIfInBounds_toArray, List.set_cons_zero, List.set_cons_succ]
        refine wpAnyH_take (i := 10) (v := (.pointer (some ⟨B, 0, none⟩))) rfl (by kernel_rfl) (by kernel_rfl) (by kernel_rfl) (fun _ _ _ h => h) (Or.inl ⟨by rfl, fun X hS => ?_⟩) hHeld ?_
        · obtain ⟨s0, s1, s2, s3, s4, s5, s6, s7⟩ := hS
          go_simp
        try simp only [Act.put, List.getElem_toArray, List.getElem_cons_zero, List.getElem_cons_succ, List.setIfInBounds_toArray, List.set_cons_zero, List.set_cons_succ]
        refine wpAnyH_take (i := 11) (v := (.int .i64 (cn : Int))) rfl (by kernel_rfl) (by kernel_rfl) (by kernel_rfl) (fun _ _ _ h => h) (Or.inl ⟨by rfl, fun X hS => ?_⟩) hHeld ?_
        · obtain ⟨s0, s1, s2, s3, s4, s5, s6, s7⟩ := hS
          go_simp
        try simp only [Act.put, List.getElem_toArray, List.getElem_cons_zero, List.getElem_cons_succ, List.setIfInBounds_toArray, List.set_cons_zero, List.set_cons_succ]
        refine wpAnyH_take (i := 12) (v := (.int .i64 (an : Int))) rfl (by kernel_rfl) (by kernel_rfl) (by kernel_rfl) (fun _ _ _ h => h) (Or.inl ⟨by rfl, fun X hS => ?_⟩) hHeld ?_
        · obtain ⟨s0, s1, s2, s3, s4, s5, s6, s7⟩ := hS
          have hq := HQ.out
          go_simp
        try simp only [Act.put, List.getElem_toArray, List.getElem_cons_zero, List.getElem_cons_succ, List.setIfInBounds_toArray, List.set_cons_zero, List.set_cons_succ]
        refine wpAnyH_take (i := 13) (v := (.string (W.extract 0 an))) rfl (by kernel_rfl) (by kernel_rfl) (by kernel_rfl) (fun _ _ _ h => h) (Or.inl ⟨by rfl, fun X hS => ?_⟩) hHeld ?_
        · obtain ⟨s0, s1, s2, s3, s4, s5, s6, s7⟩ := hS
          have hzn := HZN.out; have hzw := HZW.out; have han := HAN.out; have hk1 : (0 : Int) ≤ an := (by omega); have hk2 : (an : Int) ≤ 8192 := (by omega); have hk4 : ¬ (8192 < (an : Int)) := (by omega)
          go_simp
        try simp only [Act.put, List.getElem_toArray, List.getElem_cons_zero, List.getElem_cons_succ, List.setIfInBounds_toArray, List.set_cons_zero, List.set_cons_succ]
        refine wpAnyH_take (i := 14) (v := (.bool false)) rfl (by kernel_rfl) (by kernel_rfl) (by kernel_rfl) (fun _ _ _ h => h) (Or.inl ⟨by rfl, fun X hS => ?_⟩) hHeld ?_
        · obtain ⟨s0, s1, s2, s3, s4, s5, s6, s7⟩ := hS
          have he := HE1.out
          go_simp
        try simp only [Act.put, List.getElem_toArray, List.getElem_cons_zero, List.getElem_cons_succ, List.setIfInBounds_toArray, List.set_cons_zero, List.set_cons_succ]
        refine wpAnyH_take (i := 15) (v := (.bool false)) rfl (by kernel_rfl) (by kernel_rfl) (by kernel_rfl) (fun _ _ _ h => h) (Or.inl ⟨by rfl, fun X hS => ?_⟩) hHeld ?_
        · obtain ⟨s0, s1, s2, s3, s4, s5, s6, s7⟩ := hS
          go_simp
        try simp only [Act.put, List.getElem_toArray, List.getElem_cons_zero, List.getElem_cons_succ, List.setIfInBounds_toArray, List.set_cons_zero, List.set_cons_succ]
        refine wpAnyH_take (i := 16) (v := (.string N)) rfl (by kernel_rfl) (by kernel_rfl) (by kernel_rfl) (fun _ _ _ h => h) (Or.inl ⟨by rfl, fun X hS => ?_⟩) hHeld ?_
        · obtain ⟨s0, s1, s2, s3, s4, s5, s6, s7⟩ := hS
          go_simp
        try simp only [Act.put, List.getElem_toArray, List.getElem_cons_zero, List.getElem_cons_succ, List.setIfInBounds_toArray, List.set_cons_zero, List.set_cons_succ]
        refine wpAnyH_take (i := 17) (v := (.pointer (some ⟨B, 0, none⟩))) rfl (by kernel_rfl) (by kernel_rfl) (by kernel_rfl) (fun _ _ _ h => h) (Or.inl ⟨by rfl, fun X hS => ?_⟩) hHeld ?_
        · obtain ⟨s0, s1, s2, s3, s4, s5, s6, s7⟩ := hS
          go_simp
        try simp only [Act.put, List.getElem_toArray, List.getElem_cons_zero, List.getElem_cons_succ, List.setIfInBounds_toArray, List.set_cons_zero, List.set_cons_succ]
        refine wpAnyH_take (i := 18) (v := (.int .i64 (cn : Int))) rfl (by kernel_rfl) (by kernel_rfl) (by kernel_rfl) (fun _ _ _ h => h) (Or.inl ⟨by rfl, fun X hS => ?_⟩) hHeld ?_
        · obtain ⟨s0, s1, s2, s3, s4, s5, s6, s7⟩ := hS
          go_simp
        try simp only [Act.put, List.getElem_toArray, List.getElem_cons_zero, List.getElem_cons_succ, List.setIfInBounds_toArray, List.set_cons_zero, List.set_cons_succ]
        refine wpAnyH_take (i := 19) (v := (.string (N.extract cn 8192))) rfl (by kernel_rfl) (by kernel_rfl) (by kernel_rfl) (fun _ _ _ h => h) (Or.inl ⟨by rfl, fun X hS => ?_⟩) hHeld ?_
        · obtain ⟨s0, s1, s2, s3, s4, s5, s6, s7⟩ := hS
          have hzn := HZN.out; have hzw := HZW.out; have hcn := HCN.out; have hk1 : (0 : Int) ≤ cn := (by omega); have hk2 : (cn : Int) ≤ 8192 := (by omega); have hk4 : ¬ (8192 < (cn : Int)) := (by omega)
          go_simp
        try simp only [Act.put, List.getElem_toArray, List.getElem_cons_zero, List.getElem_cons_succ, List.setIfInBounds_toArray, List.set_cons_zero, List.set_cons_succ]
        refine wpAnyH_take (i := 20) (v := (.string W)) rfl (by kernel_rfl) (by kernel_rfl) (by kernel_rfl) (fun _ _ _ h => h) (Or.inl ⟨by rfl, fun X hS => ?_⟩) hHeld ?_
        · obtain ⟨s0, s1, s2, s3, s4, s5, s6, s7⟩ := hS
          go_simp
        try simp only [Act.put, List.getElem_toArray, List.getElem_cons_zero, List.getElem_cons_succ, List.setIfInBounds_toArray, List.set_cons_zero, List.set_cons_succ]
        refine wpAnyH_take (i := 21) (v := (.pointer (some ⟨B, 0, none⟩))) rfl (by kernel_rfl) (by kernel_rfl) (by kernel_rfl) (fun _ _ _ h => h) (Or.inl ⟨by rfl, fun X hS => ?_⟩) hHeld ?_
        · obtain ⟨s0, s1, s2, s3, s4, s5, s6, s7⟩ := hS
          go_simp
        try simp only [Act.put, List.getElem_toArray, List.getElem_cons_zero, List.getElem_cons_succ, List.setIfInBounds_toArray, List.set_cons_zero, List.set_cons_succ]
        refine wpAnyH_take (i := 22) (v := (.int .i64 (cn : Int))) rfl (by kernel_rfl) (by kernel_rfl) (by kernel_rfl) (fun _ _ _ h => h) (Or.inl ⟨by rfl, fun X hS => ?_⟩) hHeld ?_
        · obtain ⟨s0, s1, s2, s3, s4, s5, s6, s7⟩ := hS
          go_simp
        try simp only [Act.put, List.getElem_toArray, List.getElem_cons_zero, List.getElem_cons_succ, List.setIfInBounds_toArray, List.set_cons_zero, List.set_cons_succ]
        refine wpAnyH_take (i := 23) (v := (.string (W.extract cn 8192))) rfl (by kernel_rfl) (by kernel_rfl) (by kernel_rfl) (fun _ _ _ h => h) (Or.inl ⟨by rfl, fun X hS => ?_⟩) hHeld ?_
        · obtain ⟨s0, s1, s2, s3, s4, s5, s6, s7⟩ := hS
          have hzn := HZN.out; have hzw := HZW.out; have hcn := HCN.out; have hk1 : (0 : Int) ≤ cn := (by omega); have hk2 : (cn : Int) ≤ 8192 := (by omega); have hk4 : ¬ (8192 < (cn : Int)) := (by omega)
          go_simp
        try simp only [Act.put, List.getElem_toArray, List.getElem_cons_zero, List.getElem_cons_succ, List.setIfInBounds_toArray, List.set_cons_zero, List.set_cons_succ]
        refine wpAnyH_take (i := 24) (v := (.bool false)) rfl (by kernel_rfl) (by kernel_rfl) (by kernel_rfl) (fun _ _ _ h => h) (Or.inl ⟨by rfl, fun X hS => ?_⟩) hHeld ?_
        · obtain ⟨s0, s1, s2, s3, s4, s5, s6, s7⟩ := hS
          have he := HE2.out
          go_simp
        try simp only [Act.put, List.getElem_toArray, List.getElem_cons_zero, List.getElem_cons_succ, List.setIfInBounds_toArray, List.set_cons_zero, List.set_cons_succ]
        refine wpAnyH_take (i := 25) (v := (.bool false)) rfl (by kernel_rfl) (by kernel_rfl) (by kernel_rfl) (fun _ _ _ h => h) (Or.inl ⟨by rfl, fun X hS => ?_⟩) hHeld ?_
        · obtain ⟨s0, s1, s2, s3, s4, s5, s6, s7⟩ := hS
          go_simp
        try simp only [Act.put, List.getElem_toArray, List.getElem_cons_zero, List.getElem_cons_succ, List.setIfInBounds_toArray, List.set_cons_zero, List.set_cons_succ]
        refine wpAnyH_take (i := 26) (v := (.bool false)) rfl (by kernel_rfl) (by kernel_rfl) (by kernel_rfl) (fun _ _ _ h => h) (Or.inl ⟨by rfl, fun X hS => ?_⟩) hHeld ?_
        · obtain ⟨s0, s1, s2, s3, s4, s5, s6, s7⟩ := hS
          go_simp
        try simp only [Act.put, List.getElem_toArray, List.getElem_cons_zero, List.getElem_cons_succ, List.setIfInBounds_toArray, List.set_cons_zero, List.set_cons_succ]
        refine wpAnyH_done (by kernel_rfl) ?_ _
        clear hHeld
        go_wp2_with fail
        refine (HNR.out _).mono ?_
        rintro e w12 ⟨rfl, hb⟩
        have HBD := Lib.hid (HBC.out.trans (hb.mono HBC.out.size))
        have HSD := Lib.hid (OTwo.below (Y := w12) HSS.out hb)
        clear hb HBC HSS
        go_upto_region 20 with fail
        have hb := (bel1 w12 (.cells (oC 0 0 0) 66))
        have hs := HSD.out.below hb
        have hB := HBD.out.trans (hb.mono HBD.out.size)
        obtain ⟨y3, hy⟩ : ∃ y, w12.alloc (.cells (oC 0 0 0) 66) = y := ⟨_, rfl⟩
        rw [hy] at hs hB
        change Code.wp _ _ _ _ (w12.alloc (.cells (oC 0 0 0) 66))
        rw [hy]
        have HBE := Lib.hid hB
        obtain ⟨s0, s1, s2, s3, s4, s5, s6, s7⟩ := hs
        clear hy hB hb HSD HBD s6 s7
        go_wp2_with fail
        refine (HNW.out _).mono ?_
        rintro e w13 ⟨rfl, hb⟩
        have HBF := Lib.hid (HBE.out.trans (hb.mono HBE.out.size))
        clear hb
        go_wp2_with fail
        go_ret
        first
          | exact ⟨rfl, HBF.out⟩
          | exact ⟨by simp, HBF.out⟩
      · have HGT := Lib.hid hsm
        clear her0 her1 HST HTE ha hz2 hp2 hth hz hp hout hm2 hN han hcn HNS HWS
        go_enter Try.func5, Try.ntmps5
        go_upto_region 1 with fail
        have c := ob_new w a z p
        have bw := Lib.hid (bel1 w (.cells (oC a z p) 66))
        obtain ⟨y0, hy⟩ : ∃ y, w.alloc (.cells (oC a z p) 66) = y := ⟨_, rfl⟩
        obtain ⟨B, hB⟩ : ∃ B, w.heap.size = B := ⟨_, rfl⟩
        rw [hy] at c bw
        rw [hB] at c
        change Code.wp _ _ _ _ (w.alloc (.cells (oC a z p) 66))
        rw [hy, hB]
        have HWB := Lib.hid (show w.heap.size ≤ B by omega)
        clear hy hB
        go_wp2_with fail
        refine (awake14_calls _).mono ?_
        rintro e w1 ⟨rfl, hb⟩
        have HC1 := Lib.hid (show ObjB B a z p w1 from blk_at hb c)
        have HW1 := Lib.hid (bw.out.trans (hb.mono bw.out.size))
        clear hb c bw
        go_wp2_with fail
        refine (on_new 4 _).mono ?_
        rintro e w2 ⟨A, rfl, hA, hx, hb, hmn⟩
        rw [L1.out] at hx
        have HX2 := Lib.hid hx
        have HB2 := Lib.hid (hb.rebase HW1.out)
        have HC2 := Lib.hid (show ObjB B a z p w2 from (hb.bel.block _ (Array.getElem?_eq_some_iff.1 HC1.out).1).trans HC1.out)
        clear hx hb hA hmn HC1 HW1 L1
        go_wp2_with fail
        refine (on_commit HX2.out 0 2 (by omega)).mono ?_
        rintro e w3 ⟨rfl, hx, hg⟩
        rw [E1.out]; rw [S1.out] at hx
        have HX3 := Lib.hid hx
        have HB3 := Lib.hid (HB2.out.went hg)
        have HC3 := Lib.hid (show ObjB B a z p w3 from hg.keep HX2.out HC2.out (by decide) (by decide) (by decide))
        clear hx hg HX2 HB2 HC2 E1 S1
        go_wp2_with fail
        refine (on_commit HX3.out 3 1 (by omega)).mono ?_
        rintro e w4 ⟨rfl, hx, hg⟩
        rw [E2.out]; rw [S2.out] at hx
        have HX4 := Lib.hid hx
        have HB4 := Lib.hid (HB3.out.went hg)
        have HC4 := Lib.hid (show ObjB B a z p w4 from hg.keep HX3.out HC3.out (by decide) (by decide) (by decide))
        clear hx hg HX3 HB3 HC3 E2 S2
        go_wp2_with fail
        refine (on_aput HX4.out 0 (by omega) t ht).mono ?_
        rintro e w5 ⟨rfl, hx, hg⟩
        rw [P1.out]; rw [P2.out] at hx
        have HX5 := Lib.hid hx
        have HB5 := Lib.hid (HB4.out.went hg)
        have HC5 := Lib.hid (show ObjB B a z p w5 from hg.keep HX4.out HC4.out (by decide) (by decide) (by decide))
        clear hx hg HX4 HB4 HC4 P1 P2 htl
        go_wp2_with fail
        refine (on_abytes HX5.out 0 8192 (by omega)).mono ?_
        rintro e w6 ⟨rfl, hb⟩
        rw [HBY.out m, HB8.out m]
        obtain ⟨W, hW⟩ : ∃ W, strL (getM m 0 8192) = W := ⟨_, rfl⟩
        have HW := Lib.hid hW
        have HX6 := Lib.hid (HX5.out.below hb)
        have HB6 := Lib.hid (HB5.out.below HX5.out hb)
        have HC6 := Lib.hid (show ObjB B a z p w6 from blk_at hb HC5.out)
        rw [hW]
        clear hb HX5 HB5 HC5 hW
        go_upto_region 9 with fail
        have hS0 : ObjS B a z p w6.drew := (objs_mk HC6.out).below (Below.refl _ _).drew
        have HX7 := Lib.hid (show On A (oS m) w6.drew from HX6.out.below (Below.refl _ _).drew)
        have HB7 := Lib.hid (show Base A w w6.drew from HB6.out.below HX6.out (Below.refl _ _).drew)
        clear HX6 HB6 HC6
        refine wp_region_held_drew (S := ObjS B a z p) (by kernel_rfl) hS0 (fun hHeld => ?_)
        clear hS0
        refine wpAnyH_take (i := 0) (v := (.pointer (some ⟨A, 0, none⟩))) rfl (by kernel_rfl) (by kernel_rfl) (by kernel_rfl) (fun _ _ _ h => h) (Or.inl ⟨by rfl, fun X hS => ?_⟩) hHeld ?_
        · obtain ⟨s0, s1, s2, s3⟩ := hS
          go_simp
        try simp only [Act.put, List.getElem_toArray, List.getElem_cons_zero, List.getElem_cons_succ, List.setIfInBounds_toArray, List.set_cons_zero, List.set_cons_succ]
        refine wpAnyH_take (i := 2) (v := (.agg #[.int .i64 a, .int .i64 z, .int .i64 p])) rfl (by kernel_rfl) (by kernel_rfl) (by kernel_rfl) (fun _ _ _ h => h) (Or.inl ⟨by rfl, fun X hS => ?_⟩) hHeld ?_
        · obtain ⟨s0, s1, s2, s3⟩ := hS
          go_simp
        try simp only [Act.put, List.getElem_toArray, List.getElem_cons_zero, List.getElem_cons_succ, List.setIfInBounds_toArray, List.set_cons_zero, List.set_cons_succ]
        refine wpAnyH_ready (rs := [1]) (by kernel_rfl) (by simp) (AllReadyH.cons rfl (fun K1 hK1 => ?_) AllReadyH.nil)
        go_simp
        refine (dof_any HX7.out (by show (4 : Nat) ≤ 8; omega)).mono ?_
        rintro e x1 ⟨b, rfl, hd, hb⟩
        have HX8 := Lib.hid (HX7.out.below hb)
        have HB9 := Lib.hid (HB7.out.below HX7.out hb)
        have HD8 := Lib.hid hd
        have hS1 := hHeld.below hb
        clear hHeld hb hd HX7 HB7
        refine hK1.out _ _ hS1 (fun hHeld => ?_)
        clear hK1 hS1
        try simp only [Act.put, List.getElem_toArray, List.getElem_cons_zero, List.getElem_cons_succ, List.setIfInBounds_toArray, List.set_cons_zero, List.set_cons_succ]
        refine wpAnyH_ready (rs := [3]) (by kernel_rfl) (by simp) (AllReadyH.cons rfl (fun K2 hK2 => ?_) AllReadyH.nil)
        go_simp
        refine (HRW.out b x1 HD8.out).mono ?_
        rintro e x2 ⟨rfl, hb⟩
        rw [HER.out]
        have HXR := Lib.hid (HX8.out.below hb)
        have HBR := Lib.hid (HB9.out.below HX8.out hb)
        have hS2 := hHeld.below hb
        have HCR := Lib.hid hS2.2.2.2
        clear hHeld hb HX8 HB9 HD8
        refine hK2.out _ _ hS2 (fun hHeld => ?_)
        clear hK2 hS2
        try simp only [Act.put, List.getElem_toArray, List.getElem_cons_zero, List.getElem_cons_succ, List.setIfInBounds_toArray, List.set_cons_zero, List.set_cons_succ]
        refine wpAnyH_take (i := 4) (v := (.int .i64 er)) rfl (by kernel_rfl) (by kernel_rfl) (by kernel_rfl) (fun _ _ _ h => h) (Or.inl ⟨by rfl, fun X hS => ?_⟩) hHeld ?_
        · obtain ⟨s0, s1, s2, s3⟩ := hS
          go_simp
        try simp only [Act.put, List.getElem_toArray, List.getElem_cons_zero, List.getElem_cons_succ, List.setIfInBounds_toArray, List.set_cons_zero, List.set_cons_succ]
        refine wpAnyH_done (by kernel_rfl) ?_ _
        clear hHeld
        subst her
        obtain ⟨c0, c1, c2⟩ := HCR.out.all
        go_wp2_with fail
        refine (HWR.out _ _ HXR.out).mono ?_
        rintro e w8 ⟨rfl, hx, hg⟩
        have HX8 := Lib.hid hx
        have HB8_ := Lib.hid (HBR.out.went hg)
        have HC8 := Lib.hid (show ObjB B a z p w8 from hg.keep HXR.out HCR.out (by decide) (by decide) (by decide))
        clear hx hg HXR HBR HCR c0 c1 c2
        obtain ⟨c0, c1, c2⟩ := HC8.out.all
        go_wp2_with fail
        refine (HRD.out _ _ HX8.out).mono ?_
        rintro e w9 ⟨rfl, hb⟩
        have HX9 := Lib.hid (HX8.out.below hb)
        have HB9 := Lib.hid (HB8_.out.below HX8.out hb)
        have HC9 := Lib.hid (show ObjB B a z p w9 from blk_at hb HC8.out)
        clear hb HX8 HB8_ HC8 c0 c1 c2
        go_upto_region 12 with fail
        have hd := ob_new w9 a z p
        have hb := (bel1 w9 (.cells (oC a z p) 66))
        have hc := show ObjB B a z p (w9.alloc (.cells (oC a z p) 66)) from blk_at hb HC9.out
        have hX := HX9.out.below hb
        have hB := HB9.out.below HX9.out hb
        obtain ⟨y1, hy⟩ : ∃ y, w9.alloc (.cells (oC a z p) 66) = y := ⟨_, rfl⟩
        obtain ⟨C, hC⟩ : ∃ C, w9.heap.size = C := ⟨_, rfl⟩
        rw [hy] at hd hc hB hX
        rw [hC] at hd
        change Code.wp _ _ _ _ (w9.alloc (.cells (oC a z p) 66))
        rw [hy, hC]
        have HCA := Lib.hid hc; have HDA := Lib.hid hd; have HBA := Lib.hid hB; have HXA := Lib.hid hX
        clear hy hC hc hd hB hb hX HX9 HB9 HC9
        go_wp2_with fail
        refine (on_abytes HXA.out 0 8192 (by omega)).mono ?_
        rintro e w11 ⟨rfl, hb⟩
        rw [HBY.out m2, HB8.out m2, HN.out]
        have HBB := Lib.hid (HBA.out.below HXA.out hb)
        have HCB := Lib.hid (show ObjB B a z p w11 from blk_at hb HCA.out)
        have HDB := Lib.hid (show ObjB C a z p w11 from blk_at hb HDA.out)
        clear hb HBA HXA HCA HDA
        go_upto_region 17 with fail
        have hS0 : OTwo B C a z p w11.drew := (otwo_mk HCB.out HDB.out).below (Below.refl _ _).drew
        have HBC := Lib.hid (show Below w.heap.size w w11.drew from HBB.out.bel.drew)
        clear HBB HCB HDB
        refine wp_region_held_drew (S := OTwo B C a z p) (by kernel_rfl) hS0 (fun hHeld => ?_)
        have HSS := Lib.hid hS0
        clear hS0
        refine wpAnyH_take (i := 0) (v := (.pointer (some ⟨B, 0, none⟩))) rfl (by kernel_rfl) (by kernel_rfl) (by kernel_rfl) (fun _ _ _ h => h) (Or.inl ⟨by rfl, fun X hS => ?_⟩) hHeld ?_
        · obtain ⟨s0, s1, s2, s3, s4, s5, s6, s7⟩ := hS
          go_simp
        try simp only [Act.put, List.getElem_toArray, List.getElem_cons_zero, List.getElem_cons_succ, List.setIfInBounds_toArray, List.set_cons_zero, List.set_cons_succ]
        refine wpAnyH_take (i := 1) (v := (.int .i64 a)) rfl (by kernel_rfl) (by kernel_rfl) (by kernel_rfl) (fun _ _ _ h => h) (Or.inl ⟨by rfl, fun X hS => ?_⟩) hHeld ?_
        · obtain ⟨s0, s1, s2, s3, s4, s5, s6, s7⟩ := hS
          go_simp
        try simp only [Act.put, List.getElem_toArray, List.getElem_cons_zero, List.getElem_cons_succ, List.setIfInBounds_toArray, List.set_cons_zero, List.set_cons_succ]
        refine wpAnyH_take (i := 2) (v := (.bool false)) rfl (by kernel_rfl) (by kernel_rfl) (by kernel_rfl) (fun _ _ _ h => h) (Or.inl ⟨by rfl, fun X hS => ?_⟩) hHeld ?_
        · obtain ⟨s0, s1, s2, s3, s4, s5, s6, s7⟩ := hS
          have hh := HGT.out
          go_simp
        try simp only [Act.put, List.getElem_toArray, List.getElem_cons_zero, List.getElem_cons_succ, List.setIfInBounds_toArray, List.set_cons_zero, List.set_cons_succ]
        refine wpAnyH_take (i := 3) (v := (.bool false)) rfl (by kernel_rfl) (by kernel_rfl) (by kernel_rfl) (fun _ _ _ h => h) (Or.inl ⟨by rfl, fun X hS => ?_⟩) hHeld ?_
        · obtain ⟨s0, s1, s2, s3, s4, s5, s6, s7⟩ := hS
          go_simp
        try simp only [Act.put, List.getElem_toArray, List.getElem_cons_zero, List.getElem_cons_succ, List.setIfInBounds_toArray, List.set_cons_zero, List.set_cons_succ]
        refine wpAnyH_take (i := 4) (v := undef) rfl (by kernel_rfl) (by kernel_rfl) (by kernel_rfl) (fun _ _ _ h => h) (Or.inr ⟨by rfl, rfl⟩) hHeld ?_
        try simp only [Act.put, List.getElem_toArray, List.getElem_cons_zero, List.getElem_cons_succ, List.setIfInBounds_toArray, List.set_cons_zero, List.set_cons_succ]
        refine wpAnyH_take (i := 5) (v := undef) rfl (by kernel_rfl) (by kernel_rfl) (by kernel_rfl) (fun _ _ _ h => h) (Or.inr ⟨by rfl, rfl⟩) hHeld ?_
        try simp only [Act.put, List.getElem_toArray, List.getElem_cons_zero, List.getElem_cons_succ, List.setIfInBounds_toArray, List.set_cons_zero, List.set_cons_succ]
        refine wpAnyH_take (i := 6) (v := undef) rfl (by kernel_rfl) (by kernel_rfl) (by kernel_rfl) (fun _ _ _ h => h) (Or.inr ⟨by rfl, rfl⟩) hHeld ?_
        try simp only [Act.put, List.getElem_toArray, List.getElem_cons_zero, List.getElem_cons_succ, List.setIfInBounds_toArray, List.set_cons_zero, List.set_cons_succ]
        refine wpAnyH_take (i := 7) (v := undef) rfl (by kernel_rfl) (by kernel_rfl) (by kernel_rfl) (fun _ _ _ h => h) (Or.inr ⟨by rfl, rfl⟩) hHeld ?_
        try simp only [Act.put, List.getElem_toArray, List.getElem_cons_zero, List.getElem_cons_succ, List.setIfInBounds_toArray, List.set_cons_zero, List.set_cons_succ]
        refine wpAnyH_take (i := 8) (v := undef) rfl (by kernel_rfl) (by kernel_rfl) (by kernel_rfl) (fun _ _ _ h => h) (Or.inr ⟨by rfl, rfl⟩) hHeld ?_
        try simp only [Act.put, List.getElem_toArray, List.getElem_cons_zero, List.getElem_cons_succ, List.setIfInBounds_toArray, List.set_cons_zero, List.set_cons_succ]
        refine wpAnyH_take (i := 9) (v := undef) rfl (by kernel_rfl) (by kernel_rfl) (by kernel_rfl) (fun _ _ _ h => h) (Or.inr ⟨by rfl, rfl⟩) hHeld ?_
        try simp only [Act.put, List.getElem_toArray, List.getElem_cons_zero, List.getElem_cons_succ, List.setIfInBounds_toArray, List.set_cons_zero, List.set_cons_succ]
        refine wpAnyH_take (i := 10) (v := undef) rfl (by kernel_rfl) (by kernel_rfl) (by kernel_rfl) (fun _ _ _ h => h) (Or.inr ⟨by rfl, rfl⟩) hHeld ?_
        try simp only [Act.put, List.getElem_toArray, List.getElem_cons_zero, List.getElem_cons_succ, List.setIfInBounds_toArray, List.set_cons_zero, List.set_cons_succ]
        refine wpAnyH_take (i := 11) (v := undef) rfl (by kernel_rfl) (by kernel_rfl) (by kernel_rfl) (fun _ _ _ h => h) (Or.inr ⟨by rfl, rfl⟩) hHeld ?_
        try simp only [Act.put, List.getElem_toArray, List.getElem_cons_zero, List.getElem_cons_succ, List.setIfInBounds_toArray, List.set_cons_zero, List.set_cons_succ]
        refine wpAnyH_take (i := 12) (v := undef) rfl (by kernel_rfl) (by kernel_rfl) (by kernel_rfl) (fun _ _ _ h => h) (Or.inr ⟨by rfl, rfl⟩) hHeld ?_
        try simp only [Act.put, List.getElem_toArray, List.getElem_cons_zero, List.getElem_cons_succ, List.setIfInBounds_toArray, List.set_cons_zero, List.set_cons_succ]
        refine wpAnyH_take (i := 13) (v := undef) rfl (by kernel_rfl) (by kernel_rfl) (by kernel_rfl) (fun _ _ _ h => h) (Or.inr ⟨by rfl, rfl⟩) hHeld ?_
        try simp only [Act.put, List.getElem_toArray, List.getElem_cons_zero, List.getElem_cons_succ, List.setIfInBounds_toArray, List.set_cons_zero, List.set_cons_succ]
        refine wpAnyH_take (i := 14) (v := undef) rfl (by kernel_rfl) (by kernel_rfl) (by kernel_rfl) (fun _ _ _ h => h) (Or.inr ⟨by rfl, rfl⟩) hHeld ?_
        try simp only [Act.put, List.getElem_toArray, List.getElem_cons_zero, List.getElem_cons_succ, List.setIfInBounds_toArray, List.set_cons_zero, List.set_cons_succ]
        refine wpAnyH_take (i := 15) (v := undef) rfl (by kernel_rfl) (by kernel_rfl) (by kernel_rfl) (fun _ _ _ h => h) (Or.inr ⟨by rfl, rfl⟩) hHeld ?_
        try simp only [Act.put, List.getElem_toArray, List.getElem_cons_zero, List.getElem_cons_succ, List.setIfInBounds_toArray, List.set_cons_zero, List.set_cons_succ]
        refine wpAnyH_take (i := 16) (v := undef) rfl (by kernel_rfl) (by kernel_rfl) (by kernel_rfl) (fun _ _ _ h => h) (Or.inr ⟨by rfl, rfl⟩) hHeld ?_
        try simp only [Act.put, List.getElem_toArray, List.getElem_cons_zero, List.getElem_cons_succ, List.setIfInBounds_toArray, List.set_cons_zero, List.set_cons_succ]
        refine wpAnyH_take (i := 17) (v := undef) rfl (by kernel_rfl) (by kernel_rfl) (by kernel_rfl) (fun _ _ _ h => h) (Or.inr ⟨by rfl, rfl⟩) hHeld ?_
        try simp only [Act.put, List.getElem_toArray, List.getElem_cons_zero, List.getElem_cons_succ, List.setIfInBounds_toArray, List.set_cons_zero, List.set_cons_succ]
        refine wpAnyH_take (i := 18) (v := undef) rfl (by kernel_rfl) (by kernel_rfl) (by kernel_rfl) (fun _ _ _ h => h) (Or.inr ⟨by rfl, rfl⟩) hHeld ?_
        try simp only [Act.put, List.getElem_toArray, List.getElem_cons_zero, List.getElem_cons_succ, List.setIfInBounds_toArray, List.set_cons_zero, List.set_cons_succ]
        refine wpAnyH_take (i := 19) (v := undef) rfl (by kernel_rfl) (by kernel_rfl) (by kernel_rfl) (fun _ _ _ h => h) (Or.inr ⟨by rfl, rfl⟩) hHeld ?_
        try simp only [Act.put, List.getElem_toArray, List.getElem_cons_zero, List.getElem_cons_succ, List.setIfInBounds_toArray, List.set_cons_zero, List.set_cons_succ]
        refine wpAnyH_take (i := 20) (v := undef) rfl (by kernel_rfl) (by kernel_rfl) (by kernel_rfl) (fun _ _ _ h => h) (Or.inr ⟨by rfl, rfl⟩) hHeld ?_
        try simp only [Act.put, List.getElem_toArray, List.getElem_cons_zero, List.getElem_cons_succ, List.setIfInBounds_toArray, List.set_cons_zero, List.set_cons_succ]
        refine wpAnyH_take (i := 21) (v := undef) rfl (by kernel_rfl) (by kernel_rfl) (by kernel_rfl) (fun _ _ _ h => h) (Or.inr ⟨by rfl, rfl⟩) hHeld ?_
        try simp only [Act.put, List.getElem_toArray, List.getElem_cons_zero, List.getElem_cons_succ, List.setIfInBounds_toArray, List.set_cons_zero, List.set_cons_succ]
        refine wpAnyH_take (i := 22) (v := undef) rfl (by kernel_rfl) (by kernel_rfl) (by kernel_rfl) (fun _ _ _ h => h) (Or.inr ⟨by rfl, rfl⟩) hHeld ?_
        try simp only [Act.put, List.getElem_toArray, List.getElem_cons_zero, List.getElem_cons_succ, List.setIfInBounds_toArray, List.set_cons_zero, List.set_cons_succ]
        refine wpAnyH_take (i := 23) (v := undef) rfl (by kernel_rfl) (by kernel_rfl) (by kernel_rfl) (fun _ _ _ h => h) (Or.inr ⟨by rfl, rfl⟩) hHeld ?_
        try simp only [Act.put, List.getElem_toArray, List.getElem_cons_zero, List.getElem_cons_succ, List.setIfInBounds_toArray, List.set_cons_zero, List.set_cons_succ]
        refine wpAnyH_take (i := 24) (v := undef) rfl (by kernel_rfl) (by kernel_rfl) (by kernel_rfl) (fun _ _ _ h => h) (Or.inr ⟨by rfl, rfl⟩) hHeld ?_
        try simp only [Act.put, List.getElem_toArray, List.getElem_cons_zero, List.getElem_cons_succ, List.setIfInBounds_toArray, List.set_cons_zero, List.set_cons_succ]
        refine wpAnyH_take (i := 25) (v := undef) rfl (by kernel_rfl) (by kernel_rfl) (by kernel_rfl) (fun _ _ _ h => h) (Or.inr ⟨by rfl, rfl⟩) hHeld ?_
        try simp only [Act.put, List.getElem_toArray, List.getElem_cons_zero, List.getElem_cons_succ, List.setIfInBounds_toArray, List.set_cons_zero, List.set_cons_succ]
        refine wpAnyH_take (i := 26) (v := (.bool false)) rfl (by kernel_rfl) (by kernel_rfl) (by kernel_rfl) (fun _ _ _ h => h) (Or.inl ⟨by rfl, fun X hS => ?_⟩) hHeld ?_
        · obtain ⟨s0, s1, s2, s3, s4, s5, s6, s7⟩ := hS
          go_simp
        try simp only [Act.put, List.getElem_toArray, List.getElem_cons_zero, List.getElem_cons_succ, List.setIfInBounds_toArray, List.set_cons_zero, List.set_cons_succ]
        refine wpAnyH_done (by kernel_rfl) ?_ _
        clear hHeld
        go_wp2_with fail
        refine (HNR.out _).mono ?_
        rintro e w12 ⟨rfl, hb⟩
        have HBD := Lib.hid (HBC.out.trans (hb.mono HBC.out.size))
        have HSD := Lib.hid (OTwo.below (Y := w12) HSS.out hb)
        clear hb HBC HSS
        go_upto_region 20 with fail
        have hb := (bel1 w12 (.cells (oC 0 0 0) 66))
        have hs := HSD.out.below hb
        have hB := HBD.out.trans (hb.mono HBD.out.size)
        obtain ⟨y3, hy⟩ : ∃ y, w12.alloc (.cells (oC 0 0 0) 66) = y := ⟨_, rfl⟩
        rw [hy] at hs hB
        change Code.wp _ _ _ _ (w12.alloc (.cells (oC 0 0 0) 66))
        rw [hy]
        have HBE := Lib.hid hB
        obtain ⟨s0, s1, s2, s3, s4, s5, s6, s7⟩ := hs
        clear hy hB hb HSD HBD s6 s7
        go_wp2_with fail
        refine (HNW.out _).mono ?_
        rintro e w13 ⟨rfl, hb⟩
        have HBF := Lib.hid (HBE.out.trans (hb.mono HBE.out.size))
        clear hb
        go_wp2_with fail
        go_ret
        first
          | exact ⟨rfl, HBF.out⟩
          | exact ⟨by simp, HBF.out⟩
    · have her3 : rwE (gS (oS m)) a z p = 3 := by
        rw [her0, HTE.out]
        unfold thereE at hth
        cases e : thereB (oS m).L (oS m).es (a - 16) 16 with
        | true => rw [e] at hth; exact absurd rfl hth
        | false => rfl
      obtain ⟨er, her⟩ : ∃ er : Int, er = 3 := ⟨_, rfl⟩
      have HER : Hid (rwE (gS (oS m)) a z p = er) := Lib.hid (her3.trans her.symm)
      have HWR : Hid (∀ (A : Nat) (y : World), On A (oS m) y → Calls Try.prog 33 #[.pointer (some ⟨A, 0, none⟩), oV a z p] y (Gives (.int .i64 3) y)) := Lib.hid (fun A y hy => owr_range hy a z p ha.2 h16 hz hp hth)
      have HRD : Hid (∀ (A : Nat) (y : World), On A (oS m) y → Calls Try.prog 34 #[.pointer (some ⟨A, 0, none⟩), .int .i64 a] y (Gives (.tuple #[.agg #[.int .i64 0, .int .i64 0, .int .i64 0], .int .i64 3]) y)) := Lib.hid (fun A y hy => ord_range hy a ha.2 h16 hth)
      clear her0 her3 HST HTE ha hz2 hp2 hth hz hp
      go_enter Try.func5, Try.ntmps5
      go_upto_region 1 with fail
      have c := ob_new w a z p
      have bw := Lib.hid (bel1 w (.cells (oC a z p) 66))
      obtain ⟨y0, hy⟩ : ∃ y, w.alloc (.cells (oC a z p) 66) = y := ⟨_, rfl⟩
      obtain ⟨B, hB⟩ : ∃ B, w.heap.size = B := ⟨_, rfl⟩
      rw [hy] at c bw
      rw [hB] at c
      change Code.wp _ _ _ _ (w.alloc (.cells (oC a z p) 66))
      rw [hy, hB]
      have HWB := Lib.hid (show w.heap.size ≤ B by omega)
      clear hy hB
      go_wp2_with fail
      refine (awake14_calls _).mono ?_
      rintro e w1 ⟨rfl, hb⟩
      have HC1 := Lib.hid (show ObjB B a z p w1 from blk_at hb c)
      have HW1 := Lib.hid (bw.out.trans (hb.mono bw.out.size))
      clear hb c bw
      go_wp2_with fail
      refine (on_new 4 _).mono ?_
      rintro e w2 ⟨A, rfl, hA, hx, hb, hmn⟩
      rw [L1.out] at hx
      have HX2 := Lib.hid hx
      have HB2 := Lib.hid (hb.rebase HW1.out)
      have HC2 := Lib.hid (show ObjB B a z p w2 from (hb.bel.block _ (Array.getElem?_eq_some_iff.1 HC1.out).1).trans HC1.out)
      clear hx hb hA hmn HC1 HW1 L1
      go_wp2_with fail
      refine (on_commit HX2.out 0 2 (by omega)).mono ?_
      rintro e w3 ⟨rfl, hx, hg⟩
      rw [E1.out]; rw [S1.out] at hx
      have HX3 := Lib.hid hx
      have HB3 := Lib.hid (HB2.out.went hg)
      have HC3 := Lib.hid (show ObjB B a z p w3 from hg.keep HX2.out HC2.out (by decide) (by decide) (by decide))
      clear hx hg HX2 HB2 HC2 E1 S1
      go_wp2_with fail
      refine (on_commit HX3.out 3 1 (by omega)).mono ?_
      rintro e w4 ⟨rfl, hx, hg⟩
      rw [E2.out]; rw [S2.out] at hx
      have HX4 := Lib.hid hx
      have HB4 := Lib.hid (HB3.out.went hg)
      have HC4 := Lib.hid (show ObjB B a z p w4 from hg.keep HX3.out HC3.out (by decide) (by decide) (by decide))
      clear hx hg HX3 HB3 HC3 E2 S2
      go_wp2_with fail
      refine (on_aput HX4.out 0 (by omega) t ht).mono ?_
      rintro e w5 ⟨rfl, hx, hg⟩
      rw [P1.out]; rw [P2.out] at hx
      have HX5 := Lib.hid hx
      have HB5 := Lib.hid (HB4.out.went hg)
      have HC5 := Lib.hid (show ObjB B a z p w5 from hg.keep HX4.out HC4.out (by decide) (by decide) (by decide))
      clear hx hg HX4 HB4 HC4 P1 P2 htl
      go_wp2_with fail
      refine (on_abytes HX5.out 0 8192 (by omega)).mono ?_
      rintro e w6 ⟨rfl, hb⟩
      rw [HBY.out m, HB8.out m]
      obtain ⟨W, hW⟩ : ∃ W, strL (getM m 0 8192) = W := ⟨_, rfl⟩
      have HW := Lib.hid hW
      have HX6 := Lib.hid (HX5.out.below hb)
      have HB6 := Lib.hid (HB5.out.below HX5.out hb)
      have HC6 := Lib.hid (show ObjB B a z p w6 from blk_at hb HC5.out)
      rw [hW]
      clear hb HX5 HB5 HC5 hW
      go_upto_region 9 with fail
      have hS0 : ObjS B a z p w6.drew := (objs_mk HC6.out).below (Below.refl _ _).drew
      have HX7 := Lib.hid (show On A (oS m) w6.drew from HX6.out.below (Below.refl _ _).drew)
      have HB7 := Lib.hid (show Base A w w6.drew from HB6.out.below HX6.out (Below.refl _ _).drew)
      clear HX6 HB6 HC6
      refine wp_region_held_drew (S := ObjS B a z p) (by kernel_rfl) hS0 (fun hHeld => ?_)
      clear hS0
      refine wpAnyH_take (i := 0) (v := (.pointer (some ⟨A, 0, none⟩))) rfl (by kernel_rfl) (by kernel_rfl) (by kernel_rfl) (fun _ _ _ h => h) (Or.inl ⟨by rfl, fun X hS => ?_⟩) hHeld ?_
      · obtain ⟨s0, s1, s2, s3⟩ := hS
        go_simp
      try simp only [Act.put, List.getElem_toArray, List.getElem_cons_zero, List.getElem_cons_succ, List.setIfInBounds_toArray, List.set_cons_zero, List.set_cons_succ]
      refine wpAnyH_take (i := 2) (v := (.agg #[.int .i64 a, .int .i64 z, .int .i64 p])) rfl (by kernel_rfl) (by kernel_rfl) (by kernel_rfl) (fun _ _ _ h => h) (Or.inl ⟨by rfl, fun X hS => ?_⟩) hHeld ?_
      · obtain ⟨s0, s1, s2, s3⟩ := hS
        go_simp
      try simp only [Act.put, List.getElem_toArray, List.getElem_cons_zero, List.getElem_cons_succ, List.setIfInBounds_toArray, List.set_cons_zero, List.set_cons_succ]
      refine wpAnyH_ready (rs := [1]) (by kernel_rfl) (by simp) (AllReadyH.cons rfl (fun K1 hK1 => ?_) AllReadyH.nil)
      go_simp
      refine (dof_any HX7.out (by show (4 : Nat) ≤ 8; omega)).mono ?_
      rintro e x1 ⟨b, rfl, hd, hb⟩
      have HX8 := Lib.hid (HX7.out.below hb)
      have HB9 := Lib.hid (HB7.out.below HX7.out hb)
      have HD8 := Lib.hid hd
      have hS1 := hHeld.below hb
      clear hHeld hb hd HX7 HB7
      refine hK1.out _ _ hS1 (fun hHeld => ?_)
      clear hK1 hS1
      try simp only [Act.put, List.getElem_toArray, List.getElem_cons_zero, List.getElem_cons_succ, List.setIfInBounds_toArray, List.set_cons_zero, List.set_cons_succ]
      refine wpAnyH_ready (rs := [3]) (by kernel_rfl) (by simp) (AllReadyH.cons rfl (fun K2 hK2 => ?_) AllReadyH.nil)
      go_simp
      refine (HRW.out b x1 HD8.out).mono ?_
      rintro e x2 ⟨rfl, hb⟩
      rw [HER.out]
      have HXR := Lib.hid (HX8.out.below hb)
      have HBR := Lib.hid (HB9.out.below HX8.out hb)
      have hS2 := hHeld.below hb
      have HCR := Lib.hid hS2.2.2.2
      clear hHeld hb HX8 HB9 HD8
      refine hK2.out _ _ hS2 (fun hHeld => ?_)
      clear hK2 hS2
      try simp only [Act.put, List.getElem_toArray, List.getElem_cons_zero, List.getElem_cons_succ, List.setIfInBounds_toArray, List.set_cons_zero, List.set_cons_succ]
      refine wpAnyH_take (i := 4) (v := (.int .i64 er)) rfl (by kernel_rfl) (by kernel_rfl) (by kernel_rfl) (fun _ _ _ h => h) (Or.inl ⟨by rfl, fun X hS => ?_⟩) hHeld ?_
      · obtain ⟨s0, s1, s2, s3⟩ := hS
        go_simp
      try simp only [Act.put, List.getElem_toArray, List.getElem_cons_zero, List.getElem_cons_succ, List.setIfInBounds_toArray, List.set_cons_zero, List.set_cons_succ]
      refine wpAnyH_done (by kernel_rfl) ?_ _
      clear hHeld
      subst her
      obtain ⟨c0, c1, c2⟩ := HCR.out.all
      go_wp2_with fail
      refine (HWR.out _ _ HXR.out).mono ?_
      rintro e w8 ⟨rfl, hb⟩
      have HX8 := Lib.hid (HXR.out.below hb)
      have HB8_ := Lib.hid (HBR.out.below HXR.out hb)
      have HC8 := Lib.hid (show ObjB B a z p w8 from blk_at hb HCR.out)
      clear hb HXR HBR HCR c0 c1 c2
      obtain ⟨c0, c1, c2⟩ := HC8.out.all
      go_wp2_with fail
      refine (HRD.out _ _ HX8.out).mono ?_
      rintro e w9 ⟨rfl, hb⟩
      have HX9 := Lib.hid (HX8.out.below hb)
      have HB9 := Lib.hid (HB8_.out.below HX8.out hb)
      have HC9 := Lib.hid (show ObjB B a z p w9 from blk_at hb HC8.out)
      clear hb HX8 HB8_ HC8 c0 c1 c2
      go_upto_region 12 with fail
      have hd := ob_new w9 0 0 0
      have hb := (bel1 w9 (.cells (oC 0 0 0) 66))
      have hc := show ObjB B a z p (w9.alloc (.cells (oC 0 0 0) 66)) from blk_at hb HC9.out
      have hX := HX9.out.below hb
      have hB := HB9.out.below HX9.out hb
      obtain ⟨y1, hy⟩ : ∃ y, w9.alloc (.cells (oC 0 0 0) 66) = y := ⟨_, rfl⟩
      obtain ⟨C, hC⟩ : ∃ C, w9.heap.size = C := ⟨_, rfl⟩
      rw [hy] at hd hc hB hX
      rw [hC] at hd
      change Code.wp _ _ _ _ (w9.alloc (.cells (oC 0 0 0) 66))
      rw [hy, hC]
      have HCA := Lib.hid hc; have HDA := Lib.hid hd; have HBA := Lib.hid hB; have HXA := Lib.hid hX
      clear hy hC hc hd hB hb hX HX9 HB9 HC9
      go_wp2_with fail
      refine (on_abytes HXA.out 0 8192 (by omega)).mono ?_
      rintro e w11 ⟨rfl, hb⟩
      rw [HBY.out m, HB8.out m, HW.out]
      have HBB := Lib.hid (HBA.out.below HXA.out hb)
      have HCB := Lib.hid (show ObjB B a z p w11 from blk_at hb HCA.out)
      have HDB := Lib.hid (show ObjB C 0 0 0 w11 from blk_at hb HDA.out)
      clear hb HBA HXA HCA HDA
      obtain ⟨c0, c1, c2⟩ := HCB.out.all
      obtain ⟨d0, d1, d2⟩ := HDB.out.all
      go_wp2_with fail
      go_ret
      first
        | exact ⟨rfl, HBB.out.bel⟩
        | exact ⟨by simp [h16b], HBB.out.bel⟩
end Go.Proofs.Ytdmaendhkenmgaa.Bt
/- An object that came in, opened. -/
namespace Go.Proofs.Ytdmaendhkenmgaa.Bt
open Go Go.RowKit Go.Shelf
open Go.ChangeShapes Go.WideShapes Go.ChangeAt
set_option linter.unusedVariables false
set_option linter.unusedSimpArgs false

theorem Try.cellsObj : Try.prog.cellsOf 66 = 3 := by kernel_rfl
structure ObjBd (a z p : Int) : Prop where
  a1 : a ≤ 9223372036854775807
  a0 : -9223372036854775808 ≤ a
  z1 : z ≤ 9223372036854775807
  p1 : p ≤ 9223372036854775807
theorem trod_struct3 {H : Type} {enc : TypeId × Value → H} {P : Program} {w : World} {base : Nat} {spare} {held} {t : TypeId} {f0 f1 f2 : Field} {fuel : Nat} {cs : List Value} {x : DataW H × List MemPlace}
    (ht : P.underlying t = some (.struct #[f0, f1, f2])) (h : DataW.trod enc P w base spare held fuel t cs = some x) :
    ∃ y0 y1 y2 n, DataW.trod enc P w base spare held n f0.type ((cs.drop f0.offset).take (P.cellsOf f0.type)) = some y0 ∧
      DataW.trod enc P w base spare held n f1.type ((cs.drop f1.offset).take (P.cellsOf f1.type)) = some y1 ∧ DataW.trod enc P w base spare held n f2.type ((cs.drop f2.offset).take (P.cellsOf f2.type)) = some y2 := by
  obtain ⟨xs, n, _, rfl, hl, hlen, hf⟩ := DataW.trod_struct ht h
  match xs, hlen with
  | [y0, y1, y2], _ => exact ⟨y0, y1, y2, n, by simpa using hf 0 f0 rfl, by simpa using hf 1 f1 rfl, by simpa using hf 2 f2 rfl⟩
set_option maxRecDepth 100000 in
theorem object_cells {H : Type} {enc : TypeId × Value → H} {w : World} {fuel : Nat} {cs : List Value} {x : DataW H × List MemPlace} (hl : cs.length = 3)
    (h : DataW.trod enc Try.prog w 0 (fun _ => true) true fuel 66 cs = some x) : ∃ a z p, cs = [.int .i64 a, .int .i64 z, .int .i64 p] ∧ ObjBd a z p := by
  obtain ⟨y0, y1, y2, n, e0, e1, e2⟩ := trod_struct3 Try.underlying66 h
  match cs, hl with
  | [c0, c1, c2], _ =>
    simp only [Try.cellsInt, List.drop_zero, List.drop_succ_cons, List.take_succ_cons, List.take_zero] at e0 e1 e2
    obtain ⟨a, ha, _, wa⟩ := DataW.trod_int Try.underlying3 e0
    obtain ⟨z, hz, _, wz⟩ := DataW.trod_int Try.underlying3 e1
    obtain ⟨p, hp, _, wp⟩ := DataW.trod_int Try.underlying3 e2
    simp only [List.cons.injEq, and_true] at ha hz hp
    subst ha hz hp
    have b1 := bounds_i64 wa; have b2 := bounds_i64 wz; have b3 := bounds_i64 wp
    exact ⟨a, z, p, rfl, ⟨b1.2, b1.1, b2.2, b3.2⟩⟩
theorem object_open {H : Type} {enc : TypeId × Value → H} {w : World} {fuel : Nat} {cs : Array Value} {x : DataW H × List MemPlace} (hl : cs.size = Try.prog.cellsOf 66)
    (h : DataW.trod enc Try.prog w 0 (fun _ => true) true fuel 66 (Value.agg cs).cells.toList = some x) : ∃ a z p, cs = oC a z p ∧ ObjBd a z p := by
  rw [Try.cellsObj] at hl
  obtain ⟨a, z, p, e, hb⟩ := object_cells (cs := cs.toList) (by simpa using hl) h
  exact ⟨a, z, p, by rw [← cs.toArray_toList, e]; rfl, hb⟩
end Go.Proofs.Ytdmaendhkenmgaa.Bt
