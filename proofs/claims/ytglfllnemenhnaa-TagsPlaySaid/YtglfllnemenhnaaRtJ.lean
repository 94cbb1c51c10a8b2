/- Several texts in one: RtE; RtF; RtG; RtH; RtI. -/
import Derived.Test.YtglfllnemenhnaaRtD
import Derived.Test.YtglfllnemenhnaaRtB
import Derived.Laws.CopyRow
import Derived.Laws.MakeOwn
import Derived.Test.YtglfllnemenhnaaTgG
import Derived.Test.YtglfllnemenhnaaArClone
import Derived.Deep.Slices
import Derived.Deep.Strs
import Derived.ChangeSame
import Derived.OpenShut
/- A row of tags in a block of its own: made, copied, laid. -/
namespace Go.Proofs.Ytglfllnemenhnaa.Bt
open Go Go.RowKit Go.Shelf
set_option linter.unusedVariables false
set_option linter.unusedSimpArgs false

def tgC (n : Nat) (st od : Nat → Int) : Array Value := ((List.range (n * 2)).map fun i => Value.int .u8 (if i % 2 = 0 then st (i / 2) else od (i / 2))).toArray
theorem tgC_size (n : Nat) (st od : Nat → Int) : (tgC n st od).size = n * 2 := by simp [tgC]
theorem tgC_at (n : Nat) (st od : Nat → Int) (i : Nat) (hi : i < n * 2) : (tgC n st od)[i]? = some (.int .u8 (if i % 2 = 0 then st (i / 2) else od (i / 2))) := by simp [tgC, hi]
theorem tgC_get (n : Nat) (st od : Nat → Int) (k : Nat) (hk : k < n) : (tgC n st od)[k * 2]? = some (.int .u8 (st k)) ∧ (tgC n st od)[k * 2 + 1]? = some (.int .u8 (od k)) := by
  constructor
  · rw [tgC_at _ _ _ _ (by omega), if_pos (by omega), show k * 2 / 2 = k by omega]
  · rw [tgC_at _ _ _ _ (by omega), if_neg (by omega), show (k * 2 + 1) / 2 = k by omega]
theorem tgC_ext {n : Nat} {st od st' od' : Nat → Int} (h : ∀ k, k < n → st k = st' k ∧ od k = od' k) : tgC n st od = tgC n st' od' := by
  apply Array.ext_getElem?
  intro i
  by_cases hi : i < n * 2
  · rw [tgC_at _ _ _ _ hi, tgC_at _ _ _ _ hi]
    obtain ⟨h1, h2⟩ := h (i / 2) (by omega)
    rw [h1, h2]
  · rw [Array.getElem?_eq_none (by rw [tgC_size]; omega), Array.getElem?_eq_none (by rw [tgC_size]; omega)]
/-- one tag laid -/
theorem tgC_set (n : Nat) (st od : Nat → Int) (k : Nat) (hk : k < n) (x y : Int) :
    ((tgC n st od).setIfInBounds (k * 2) (.int .u8 x)).setIfInBounds (k * 2 + 1) (.int .u8 y) = tgC n (fun j => if j = k then x else st j) (fun j => if j = k then y else od j) := by
  apply Array.ext_getElem?
  intro i
  rw [Array.getElem?_setIfInBounds, Array.getElem?_setIfInBounds]
  by_cases hi : i < n * 2
  · rw [tgC_at _ _ _ _ hi]
    by_cases e1 : k * 2 + 1 = i
    · subst e1
      rw [if_pos rfl, if_pos (by rw [Array.size_setIfInBounds, tgC_size]; omega), (tgC_get n _ _ k hk).2, if_pos rfl]
    · rw [if_neg e1]
      by_cases e0 : k * 2 = i
      · subst e0
        rw [if_pos rfl, if_pos (by rw [tgC_size]; omega), (tgC_get n _ _ k hk).1, if_pos rfl]
      · rw [if_neg e0, tgC_at _ _ _ _ hi]
        have : i / 2 ≠ k := by omega
        rw [if_neg this, if_neg this]
  · rw [if_neg (by omega), if_neg (by omega), Array.getElem?_eq_none (by rw [tgC_size]; omega), Array.getElem?_eq_none (by rw [tgC_size]; omega)]
/-- a row of tags in its own block, typed -/
def TgB (N n : Nat) (st od : Nat → Int) (w : World) : Prop := w.heap[N]? = some (.cells (tgC n st od) 156 (0, 0))
theorem TgB.at {N n : Nat} {st od : Nat → Int} {w : World} (h : TgB N n st od w) : TgAt N n st od w :=
  ⟨(Array.getElem?_eq_some_iff.1 h).1, fun k hk => ⟨(cell_blk h _).1.trans (tgC_get n st od k hk).1, (cell_blk h _).1.trans (tgC_get n st od k hk).2⟩⟩
theorem Try.infoTg : (Try.prog.info? 156).map (fun i => (i.zero, i.size, i.bytes)) = some (some (.agg #[.int .u8 0, .int .u8 0]), 2, 2) := by kernel_rfl
theorem made_tags (n : Nat) : madeCells (Value.agg #[.int .u8 0, .int .u8 0]).cells (n * 2) = tgC n (fun _ => 0) (fun _ => 0) := by
  apply Array.ext_getElem?
  intro i
  by_cases hi : i < n * 2
  · rw [tgC_at _ _ _ _ hi]
    have : i % 2 = 0 ∨ i % 2 = 1 := by omega
    rcases this with h | h <;> simp [madeCells, hi, Value.cells, h]
  · rw [Array.getElem?_eq_none (by rw [size_madeCells]; omega), Array.getElem?_eq_none (by rw [tgC_size]; omega)]
theorem run_tags (n : Nat) (hn : n ≤ 2000) (w : World) :
    (Instr.makeSlice 75 (.int .i64 (n : Int)) (.int .i64 (n : Int))).run Try.prog w = .ok (.slice (some ⟨w.heap.size, 0, none⟩) n n) (w.alloc (.cells (tgC n (fun _ => 0) (fun _ => 0)) 156)) := by
  obtain ⟨i0, hi, hz0, hz1, hz2⟩ := info_parts Try.infoTg
  have h := run_make (P := Try.prog) w 75 156 i0 (.agg #[.int .u8 0, .int .u8 0]) Try.underlying75 hi hz0 .i64 .i64 (n : Int) n (by omega) (Int.le_refl _) (by rw [hz2]; omega) (by omega)
  rw [Int.toNat_natCast, hz1, made_tags] at h
  exact h
theorem run_copy_rows (P : Program) (w : World) (dT sT ty elem : TypeId) (g dLen dCap : Nat) (a : Addr) (sLen sCap : Nat) (cur : Array Value) (t : TypeId) (cs : List Value) (sz m : Nat)
    (hu : P.underlying dT = some (.slice elem)) (hs : (P.info? elem).map (·.size) = some sz) (hm : Nat.min sLen dLen = m)
    (hg : w.heap[g]? = some (.cells cur t (0, 0))) (hn : cs.length = m * sz)
    (hsrc : ∀ j v, cs[j]? = some v → w.cell? (a.add j) = some v) (hfit : cs.length = cur.size) (h1 : ∀ v ∈ cs, v.oneCell' = true) :
    (Builtin.copy_ #[dT, sT] ty #[.slice (some ⟨g, 0, none⟩) dLen dCap, .slice (some a) sLen sCap]).run P w = .ok (goInt m) (w.setRow g cs.toArray) := by
  have hl := run_loadCells_list (P := P) w a cs hsrc
  have hst := run_storeCells_at P g 0 t cs 0 cur w hg (by simpa using Nat.le_of_eq hfit) h1
  cases hq : P.info? elem with
  | none => simp [hq] at hs
  | some i =>
    have hi : i.size = sz := by simpa [hq] using hs
    simp [Builtin.copy_, run_underlying hu, Builtin.lenOf, Builtin.firstCells, sizeOf, typeInfo, hq, hi, hm, ← hn, hl, hst]
    rw [hfit, List.drop_of_length_le (by simp), List.append_nil]
theorem copy_tags (x : World) (O N n cap : Nat) (st od st0 od0 : Nat → Int) (hO : TgB O n st0 od0 x) (hN : TgAt N n st od x) (ty : TypeId) :
    (Builtin.copy_ #[75, 75] ty #[.slice (some ⟨O, 0, none⟩) n n, .slice (some ⟨N, 0, none⟩) n cap]).run Try.prog x = .ok (goInt n) (x.setRow O (tgC n st od)) := by
  obtain ⟨i0, hi, hz0, hz1, hz2⟩ := info_parts Try.infoTg
  have h := run_copy_rows Try.prog x 75 75 ty 156 O n n ⟨N, 0, none⟩ n cap (tgC n st0 od0) 156 (tgC n st od).toList 2 n Try.underlying75 (by rw [hi]; simp [hz1]) (Nat.min_self n) hO (by simp [tgC_size])
    (fun j v hj => by
      have hjl : j < n * 2 := by have := (List.getElem?_eq_some_iff.1 hj).1; simpa [tgC_size] using this
      rw [addr_add]
      have hj2 : (tgC n st od)[j]? = some v := by simpa using hj
      rw [tgC_at _ _ _ _ hjl] at hj2
      rw [← hj2]
      obtain ⟨h1, h2⟩ := hN.2 (j / 2) (by omega)
      by_cases e : j % 2 = 0
      · rw [if_pos e, Nat.zero_add, ← h1, show j / 2 * 2 = j by omega]
      · rw [if_neg e, Nat.zero_add, ← h2, show j / 2 * 2 + 1 = j by omega]) (by simp [tgC_size]) (fun v hv => by
      have hv2 : v ∈ tgC n st od := by simpa using hv
      simp only [tgC, List.mem_toArray, List.mem_map] at hv2
      obtain ⟨j, _, rfl⟩ := hv2
      rfl)
  simpa using h
end Go.Proofs.Ytglfllnemenhnaa.Bt
/- The document's Lay of tags, where it is laid. -/
namespace Go.Proofs.Ytglfllnemenhnaa.Bt
open Go Go.RowKit Go.Shelf
set_option linter.unusedVariables false
set_option linter.unusedSimpArgs false

theorem TgB.set {O n : Nat} {st od : Nat → Int} {x : World} (h : TgB O n st od x) (k : Nat) (hk : k < n) (a b : Int) :
    TgB O n (fun j => if j = k then a else st j) (fun j => if j = k then b else od j) ((x.setCell ⟨O, k * 2, none⟩ (.int .u8 a)).setCell ⟨O, k * 2 + 1, none⟩ (.int .u8 b)) := by
  unfold TgB
  rw [← tgC_set n st od k hk a b]
  exact heap_set (heap_set h _) _
theorem TgB.ext {O n : Nat} {st od st' od' : Nat → Int} {x : World} (h : TgB O n st od x) (e : ∀ k, k < n → st k = st' k ∧ od k = od' k) : TgB O n st' od' x := by
  unfold TgB at h ⊢; rw [← tgC_ext e]; exact h
theorem TgB.cells {O n : Nat} {st od : Nat → Int} {x : World} (h : TgB O n st od x) (k : Nat) (hk : k < n) :
    x.cell? ⟨O, k * 2, none⟩ = some (.int .u8 (st k)) ∧ x.cell? ⟨O, k * 2 + 1, none⟩ = some (.int .u8 (od k)) ∧ x.frozen? ⟨O, k * 2, none⟩ = false ∧ x.frozen? ⟨O, k * 2 + 1, none⟩ = false :=
  ⟨(cell_blk h _).1.trans (tgC_get n st od k hk).1, (cell_blk h _).1.trans (tgC_get n st od k hk).2, (cell_blk h _).2, (cell_blk h _).2⟩
/-- j pages from i on laid as another's -/
def stJ (st : Nat → Int) (i j : Nat) (v : Int) (k : Nat) : Int := if i ≤ k ∧ k < i + j then v else st k
def odJ (od : Nat → Int) (i j : Nat) (k : Nat) : Int := if i ≤ k ∧ k < i + j then 0 else od k
def stL (st : Nat → Int) (i P : Nat) (s0 : Int) (k : Nat) : Int := if i ≤ k ∧ k < i + P then (if s0 = 0 then 0 else if k = i then s0 else 1) else st k
def odL (od : Nat → Int) (i P on : Nat) (s0 : Int) (k : Nat) : Int := if i ≤ k ∧ k < i + P then (if s0 ≠ 0 ∧ k = i then (on : Int) else 0) else od k
theorem J_step (st od : Nat → Int) (i j : Nat) (v : Int) : ∀ k : Nat, (if k = i + j then v else stJ st i j v k) = stJ st i (j + 1) v k ∧ (if k = i + j then (0 : Int) else odJ od i j k) = odJ od i (j + 1) k := fun k => by
  unfold stJ odJ
  by_cases e : k = i + j
  · subst e; rw [if_pos rfl, if_pos rfl, if_pos (by omega), if_pos (by omega)]; exact ⟨rfl, rfl⟩
  · rw [if_neg e, if_neg e]
    by_cases h : i ≤ k ∧ k < i + j
    · rw [if_pos h, if_pos h, if_pos (by omega), if_pos (by omega)]; exact ⟨rfl, rfl⟩
    · rw [if_neg h, if_neg h, if_neg (by omega), if_neg (by omega)]; exact ⟨rfl, rfl⟩
theorem L_last (st od : Nat → Int) (i P on : Nat) (s0 : Int) (hs0 : s0 ≠ 0) (hP : 1 ≤ P) (q : Nat) : (if q = i then s0 else stJ st i P 1 q) = stL st i P s0 q ∧ (if q = i then (on : Int) else odJ od i P q) = odL od i P on s0 q := by
  unfold stJ odJ stL odL
  by_cases e : q = i
  · have h : i ≤ q ∧ q < i + P := by omega
    constructor
    · rw [if_pos e, if_pos h, if_neg hs0, if_pos e]
    · rw [if_pos e, if_pos h, if_pos ⟨hs0, e⟩]
  · constructor
    · rw [if_neg e]
      by_cases h : i ≤ q ∧ q < i + P
      · rw [if_pos h, if_pos h, if_neg hs0, if_neg e]
      · rw [if_neg h, if_neg h]
    · rw [if_neg e]
      by_cases h : i ≤ q ∧ q < i + P
      · rw [if_pos h, if_pos h, if_neg (fun hh => e hh.2)]
      · rw [if_neg h, if_neg h]
def LayP (n i P on : Nat) (s0 : Int) (st od : Nat → Int) (w : World) (e : Ending) (w' : World) : Prop :=
  ∃ O, e = .returned (.tuple #[.slice (some ⟨O, 0, none⟩) n n, .int .i64 0]) ∧ TgB O n (stL st i P s0) (odL od i P on s0) w' ∧ w.heap.size ≤ O ∧ Below w.heap.size w w'
set_option maxRecDepth 100000 in
set_option maxHeartbeats 4000000 in
theorem rlay_ok (N n : Nat) (hn : n ≤ 2000) (iN on P : Nat) (ho : on ≤ 10) (hP : 2 ^ on = P) (hfit : iN + P ≤ n) (s0 : Int) (hs : s0 = 0 ∨ s0 = 2 ∨ s0 = 3) (st od : Nat → Int) (w : World) (h : TgAt N n st od w) :
    Calls Try.prog 33 #[.slice (some ⟨N, 0, none⟩) n n, .int .i64 (iN : Int), .int .i64 (on : Int), .int .u8 s0] w (LayP n iN P on s0 st od w) := by
  have HPG := Lib.hid (fun w => rpages_any on ho w)
  have hpb := (pow_n on (by omega)).2
  rw [hP] at hpb HPG
  have hmk := run_tags n hn
  have hO := heap_new w (.cells (tgC n (fun _ => 0) (fun _ => 0)) 156)
  have hcp := fun ty => copy_tags (w.alloc (.cells (tgC n (fun _ => 0) (fun _ => 0)) 156)) w.heap.size N n n st od _ _ hO (h.below (bel1 w _)) ty
  have HB := Lib.hid (below_setRow (bel1 w (.cells (tgC n (fun _ => 0) (fun _ => 0)) 156)) (Nat.le_refl _) (tgC n st od))
  have HT := Lib.hid (show TgB w.heap.size n (stJ st iN 0 1) (odJ od iN 0) _ from TgB.ext (show TgB w.heap.size n st od ((w.alloc (.cells (tgC n (fun _ => 0) (fun _ => 0)) 156)).setRow w.heap.size (tgC n st od)) from setRow_heap _ _ _ _ _ _ hO) (fun k _ => by unfold stJ odJ; rw [if_neg (by omega), if_neg (by omega)]; exact ⟨rfl, rfl⟩))
  have HT0 := Lib.hid (show TgB w.heap.size n (stJ st iN 0 0) (odJ od iN 0) _ from TgB.ext (show TgB w.heap.size n st od ((w.alloc (.cells (tgC n (fun _ => 0) (fun _ => 0)) 156)).setRow w.heap.size (tgC n st od)) from setRow_heap _ _ _ _ _ _ hO) (fun k _ => by unfold stJ odJ; rw [if_neg (by omega), if_neg (by omega)]; exact ⟨rfl, rfl⟩))
  have o1 : ¬ ((on : Int) < 0) := by omega
  have o2 : ¬ (10 < (on : Int)) := by omega
  have i1 : ¬ ((iN : Int) < 0) := by omega
  have i2 : ¬ ((n : Int) < (P : Int)) := by omega
  have i3 : wrap64 ((n : Int) - (P : Int)) = (n : Int) - (P : Int) := IntWalk.wrap64_in _ ⟨by omega, by omega⟩
  have i4 : ¬ ((n : Int) - (P : Int) < (iN : Int)) := by omega
  have qo : IntKind.u8.wrap (on : Int) = (on : Int) := by rw [IntKind.wrap_u8]; omega
  clear h hO hP
  rcases hs with rfl | hs
  · clear HT
    go_enter Try.func33, Try.ntmps33
    go_wp2_with fail
    refine (HPG.out _).mono ?_
    rintro e w1 ⟨rfl, rfl⟩
    go_upto_region 8 with fail
    obtain ⟨y, hy⟩ : ∃ y, (w.alloc (.cells (tgC n (fun _ => 0) (fun _ => 0)) 156)).setRow w.heap.size (tgC n st od) = y := ⟨_, rfl⟩
    obtain ⟨O, hO⟩ : ∃ O, w.heap.size = O := ⟨_, rfl⟩
    have HOW : Hid (w.heap.size ≤ O) := Lib.hid (by omega)
    rw [hy] at HT0 HB ⊢
    rw [hO] at HT0 ⊢
    clear hy hO hcp hmk
    go_wp2_with fail
    go_loopw [12] (fun s wr => ∃ j : Nat, j ≤ P ∧ s = .int .i64 (j : Int) ∧ TgB O n (stJ st iN j 0) (odJ od iN j) wr ∧ Below w.heap.size w wr) (fun s _ => P - (intOf s).toNat)
    case atStart => exact ⟨0, Nat.zero_le _, rfl, HT0.out, HB.out⟩
    case round =>
      clear HT0 HB
      obtain ⟨j, hj, rfl, ht, hb⟩ := hrel
      by_cases hlt : j < P
      · obtain ⟨k, hk⟩ : ∃ k, iN + j = k := ⟨_, rfl⟩
        have hq : (iN : Int) + (j : Int) = (k : Int) := by omega
        have hkn : k < n := by omega
        have hki : (k : Int) < (n : Int) := by omega
        have hk0 : (0 : Int) ≤ (k : Int) := by omega
        obtain ⟨c0, c1, f0, f1⟩ := ht.cells k hkn
        have HN := Lib.hid (show TgB O n (stJ st iN (j + 1) 0) (odJ od iN (j + 1)) _ from ((ht.set k hkn 1 0).set k hkn 0 0).ext (fun q _ => by
          have := J_step st od iN j 0 q
          rw [hk] at this
          refine ⟨?_, ?_⟩
          · rw [← this.1]; by_cases e : q = k <;> simp [e]
          · rw [← this.2]; by_cases e : q = k <;> simp [e]))
        have HB2 := Lib.hid (((((hb.setCell (p := ⟨O, k * 2, none⟩) HOW.out (.int .u8 1)).setCell (p := ⟨O, k * 2 + 1, none⟩) HOW.out (.int .u8 0))).setCell (p := ⟨O, k * 2, none⟩) HOW.out (.int .u8 0)).setCell (p := ⟨O, k * 2 + 1, none⟩) HOW.out (.int .u8 0))
        obtain ⟨g0, g1, k0, k1⟩ := (ht.set k hkn 1 0).cells k hkn
        clear ht hb hk
        go_wp2_with fail
        go_roundw
        case rel => exact ⟨j + 1, by omega, by go_num, HN.out, HB2.out⟩
        case measure => simp [intOf]; omega
      · obtain rfl : j = P := by omega
        have HF := Lib.hid (ht.ext (st' := stL st iN j 0) (od' := odL od iN j on 0) (fun q _ => by unfold stJ odJ stL odL; simp))
        have HBF := Lib.hid hb
        clear ht hb
        go_wp2_with fail
        go_ret2
        exact ⟨O, rfl, HF.out, HOW.out, HBF.out⟩
  · have s1 : (s0 == 1) = false := by rcases hs with rfl | rfl <;> rfl
    have s2 : ¬ (3 < s0) := by omega
    have s3 : (s0 == 0) = false := by rcases hs with rfl | rfl <;> rfl
    have s4 : (s0 != 0) = true := by rcases hs with rfl | rfl <;> rfl
    go_enter Try.func33, Try.ntmps33
    go_wp2_with fail
    refine (HPG.out _).mono ?_
    rintro e w1 ⟨rfl, rfl⟩
    clear HT0
    go_upto_region 8 with fail
    obtain ⟨y, hy⟩ : ∃ y, (w.alloc (.cells (tgC n (fun _ => 0) (fun _ => 0)) 156)).setRow w.heap.size (tgC n st od) = y := ⟨_, rfl⟩
    obtain ⟨O, hO⟩ : ∃ O, w.heap.size = O := ⟨_, rfl⟩
    have HOW : Hid (w.heap.size ≤ O) := Lib.hid (by omega)
    rw [hy] at HT HB ⊢
    rw [hO] at HT ⊢
    clear hy hO hcp hmk
    go_wp2_with fail
    go_loopw [12] (fun s wr => ∃ j : Nat, j ≤ P ∧ s = .int .i64 (j : Int) ∧ TgB O n (stJ st iN j 1) (odJ od iN j) wr ∧ Below w.heap.size w wr) (fun s _ => P - (intOf s).toNat)
    case atStart => exact ⟨0, Nat.zero_le _, rfl, HT.out, HB.out⟩
    case round =>
      clear HT HB
      obtain ⟨j, hj, rfl, ht, hb⟩ := hrel
      by_cases hlt : j < P
      · obtain ⟨k, hk⟩ : ∃ k, iN + j = k := ⟨_, rfl⟩
        have hq : (iN : Int) + (j : Int) = (k : Int) := by omega
        have hkn : k < n := by omega
        have hki : (k : Int) < (n : Int) := by omega
        have hk0 : (0 : Int) ≤ (k : Int) := by omega
        obtain ⟨c0, c1, f0, f1⟩ := ht.cells k hkn
        have HN := Lib.hid (show TgB O n (stJ st iN (j + 1) 1) (odJ od iN (j + 1)) _ from (ht.set k hkn 1 0).ext (fun q _ => by
          have := J_step st od iN j 1 q
          rw [hk] at this
          exact this))
        have HB2 := Lib.hid ((hb.setCell (p := ⟨O, k * 2, none⟩) HOW.out (.int .u8 1)).setCell (p := ⟨O, k * 2 + 1, none⟩) HOW.out (.int .u8 0))
        clear ht hb hk
        go_wp2_with fail
        go_roundw
        case rel => exact ⟨j + 1, by omega, by go_num, HN.out, HB2.out⟩
        case measure => simp [intOf]; omega
      · obtain rfl : j = P := by omega
        have hin : iN < n := by omega
        have hii : (iN : Int) < (n : Int) := by omega
        obtain ⟨c0, c1, f0, f1⟩ := ht.cells iN hin
        have HF := Lib.hid ((ht.set iN hin s0 on).ext (st' := stL st iN j s0) (od' := odL od iN j on s0) (fun q _ => by
          exact L_last st od iN j on s0 (by rcases hs with rfl | rfl <;> decide) hpb.1 q))
        have HBF := Lib.hid ((hb.setCell (p := ⟨O, iN * 2, none⟩) HOW.out (.int .u8 s0)).setCell (p := ⟨O, iN * 2 + 1, none⟩) HOW.out (.int .u8 (on : Int)))
        clear ht hb
        go_wp2_with fail
        go_ret2
        exact ⟨O, rfl, HF.out, HOW.out, HBF.out⟩
end Go.Proofs.Ytglfllnemenhnaa.Bt
/- A table tells what the document says. -/
namespace Go.Proofs.Ytglfllnemenhnaa.Bt
open Go Go.RowKit Go.Shelf
set_option linter.unusedVariables false
set_option linter.unusedSimpArgs false

theorem runV_form (c : Int → Int) (i : Int) : ∃ at_ s o er, runV c i = .tuple #[.int .i64 at_, tagV s o, .int .i64 er] := by
  unfold runV; split
  · exact ⟨_, _, _, _, rfl⟩
  · exact ⟨0, 0, 0, 8, rfl⟩
/-- a table of n pages, and the document's row -/
structure Tw (A N n : Nat) (m : Nat → UInt8) (x : World) : Prop where
  o : On A (fullS 1 m) x
  t : TgAt N n (fun k => tagS (gC (fullS 1 m) 96 n (k : Int))) (fun k => tagO (gC (fullS 1 m) 96 n (k : Int))) x
theorem Tw.below {A N n : Nat} {m : Nat → UInt8} {x y : World} (h : Tw A N n m x) (hb : Below x.heap.size x y) : Tw A N n m y := ⟨h.o.below hb, h.t.below hb⟩
theorem tell_key (A N n : Nat) (hn : n ≤ 300) (m : Nat → UInt8) (i : Int) (hi : -1 ≤ i ∧ i ≤ n) : ∃ S0 O0 E0 at_ so oo er,
    (∀ X, Tw A N n m X → Calls Try.prog 37 #[tbP (some ⟨A, 0, none⟩) 96 n, .int .i64 i] X (Gives (.tuple #[tagV S0 O0, .int .i64 E0]) X)) ∧
    (∀ X, Tw A N n m X → Calls Try.prog 93 #[.slice (some ⟨N, 0, none⟩) n n, .int .i64 i] X (Gives (.tuple #[tagV S0 O0, .int .i64 E0]) X)) ∧
    (∀ X, Tw A N n m X → Calls Try.prog 38 #[tbP (some ⟨A, 0, none⟩) 96 n, .int .i64 i] X (Gives (.tuple #[.int .i64 at_, tagV so oo, .int .i64 er]) X)) ∧
    (∀ X, Tw A N n m X → Calls Try.prog 94 #[.slice (some ⟨N, 0, none⟩) n n, .int .i64 i] X (Gives (.tuple #[.int .i64 at_, tagV so oo, .int .i64 er]) X)) := by
  have hE := gE_full m 96 n (by omega) i
  by_cases hin : 0 ≤ i ∧ i < (n : Int)
  · rw [if_pos hin] at hE
    obtain ⟨k, rfl⟩ := Int.eq_ofNat_of_zero_le hin.1
    obtain ⟨at_, so, oo, er, hr⟩ := runV_form (gC (fullS 1 m) 96 n) (k : Int)
    refine ⟨tagS (gC (fullS 1 m) 96 n (k : Int)), tagO (gC (fullS 1 m) 96 n (k : Int)), 0, at_, so, oo, er, fun X h => ?_, fun X h => ?_, fun X h => ?_, fun X h => ?_⟩
    · have := tget_on h.o 96 n (by omega) (by omega) (k : Int) (by omega)
      rw [hE] at this; exact this
    · exact rget_in N n (by omega) _ _ k (by omega) X h.t
    · have := trun_on h.o 96 n (by omega) (by omega) (k : Int) (by omega) (by omega) hE
      rw [hr] at this; exact this
    · have := rrun_in N n (by omega) (gC (fullS 1 m) 96 n) (fun j => (gC_b _ _ _ _).1) (fun j hj => gC_neg _ _ _ hj) k (by omega) X h.t
      rw [hr] at this; exact this
  · rw [if_neg hin] at hE
    have hC : gC (fullS 1 m) 96 n i = 0 := by
      unfold gE at hE; unfold gC ldV; rw [hE, if_neg (by decide)]
    refine ⟨0, 0, 3, 0, 0, 0, 3, fun X h => ?_, fun X h => ?_, fun X h => ?_, fun X h => ?_⟩
    · have := tget_on h.o 96 n (by omega) (by omega) i (by omega)
      rw [hE, hC] at this; exact this
    · exact rget_out N n (by omega) i (by omega) X
    · have := trun_bad h.o 96 n (by omega) (by omega) i (by omega) (by rw [hE]; decide)
      rw [hE] at this; exact this
    · exact rrun_out N n (by omega) i (by omega) X
/-- told's variables between two pages -/
structure TQ (V A N n : Nat) (m : Nat → UInt8) (w x : World) : Prop where
  v : VT V (some ⟨A, 0, none⟩) 96 n x
  t : Tw A N n m x
  b : Below w.heap.size w x
theorem TQ.below {V A N n : Nat} {m : Nat → UInt8} {w x y : World} (h : TQ V A N n m w x) (hb : Below x.heap.size x y) : TQ V A N n m w y := ⟨h.v.below hb, h.t.below hb, h.b.trans (hb.mono h.b.size)⟩
def PB (B : Nat) (s o : Int) (T : TypeId) (x : World) : Prop := x.heap[B]? = some (.cells #[.int .u8 s, .int .u8 o] T (0, 0))
set_option maxRecDepth 100000 in
set_option maxHeartbeats 4000000 in
theorem told6_any (A N n : Nat) (hn : n ≤ 300) (m : Nat → UInt8) (w : World) (h : Tw A N n m w) :
    Calls Try.prog 34 #[tbP (some ⟨A, 0, none⟩) 96 n, .slice (some ⟨N, 0, none⟩) n n] w (Gives (.bool true) w) := by
  have HK := Lib.hid (tell_key A N n hn m)
  have hT := bel1 w (.cells #[.pointer (some ⟨A, 0, none⟩), .int .i64 96, .int .i64 (n : Int)] 72)
  have HQ := Lib.hid (show TQ w.heap.size A N n m w _ from ⟨heap_new w (.cells #[.pointer (some ⟨A, 0, none⟩), .int .i64 96, .int .i64 (n : Int)] 72), h.below hT, hT⟩)
  clear hT h
  go_enter Try.func34, Try.ntmps34
  go_upto_region 1 with fail
  obtain ⟨y, hy⟩ : ∃ y, w.alloc (.cells #[.pointer (some ⟨A, 0, none⟩), .int .i64 96, .int .i64 (n : Int)] 72) = y := ⟨_, rfl⟩
  obtain ⟨V, hV⟩ : ∃ V, w.heap.size = V := ⟨_, rfl⟩
  change Code.wp _ _ _ _ (w.alloc (.cells #[.pointer (some ⟨A, 0, none⟩), .int .i64 96, .int .i64 (n : Int)] 72))
  rw [hy] at HQ ⊢
  rw [hV] at HQ ⊢
  clear hy hV
  go_wp2_with fail
  go_loopw [5] (fun s wr => ∃ t : Nat, t ≤ n + 2 ∧ s = .int .i64 ((t : Int) - 1) ∧ TQ V A N n m w wr) (fun s _ => n + 2 - (intOf s + 1).toNat)
  case atStart => exact ⟨0, by omega, rfl, HQ.out⟩
  case round =>
    clear HQ
    obtain ⟨t, ht, rfl, hq⟩ := hrel
    have HQ := Lib.hid hq
    clear hq
    obtain ⟨i, hi⟩ : ∃ i : Int, (t : Int) - 1 = i := ⟨_, rfl⟩
    rw [hi]
    obtain ⟨v0, v1, v2, _⟩ := HQ.out.v.all
    by_cases hin : i ≤ (n : Int)
    · obtain ⟨S0, O0, E0, at_, so, oo, er, k1, k2, k3, k4⟩ := HK.out i ⟨by omega, hin⟩
      have K1 := Lib.hid k1; have K2 := Lib.hid k2; have K3 := Lib.hid k3; have K4 := Lib.hid k4
      clear k1 k2 k3 k4
      go_wp2_with fail
      refine (K1.out _ HQ.out.t).mono ?_
      rintro e x1 ⟨rfl, hb⟩
      have hq1 := HQ.out.below hb
      have hB1 := heap_new x1 (.cells #[.int .u8 S0, .int .u8 O0] 86)
      have hq2 := hq1.below (bel1 x1 (.cells #[.int .u8 S0, .int .u8 O0] 86))
      clear hb hq1 HQ v0 v1 v2 K1
      go_upto_region 5 with fail
      change Code.wp _ _ _ _ (x1.alloc (.cells #[.int .u8 S0, .int .u8 O0] 86))
      obtain ⟨z1, hz1⟩ : ∃ z, x1.alloc (.cells #[.int .u8 S0, .int .u8 O0] 86) = z := ⟨_, rfl⟩
      obtain ⟨B1, hBB1⟩ : ∃ B, x1.heap.size = B := ⟨_, rfl⟩
      rw [hz1] at hB1 hq2 ⊢
      rw [hBB1] at hB1 ⊢
      have HQ1 := Lib.hid hq2; have HB1 := Lib.hid (show PB B1 S0 O0 86 z1 from hB1)
      clear hz1 hBB1 hB1 hq2
      go_wp2_with fail
      refine (K2.out _ HQ1.out.t).mono ?_
      rintro e x2 ⟨rfl, hb⟩
      have hq1 := HQ1.out.below hb
      have hp1 := show PB B1 S0 O0 86 x2 from pair_at hb HB1.out
      have hB2 := heap_new x2 (.cells #[.int .u8 S0, .int .u8 O0] 156)
      have hq2 := hq1.below (bel1 x2 (.cells #[.int .u8 S0, .int .u8 O0] 156))
      have hp2 := show PB B1 S0 O0 86 (x2.alloc (.cells #[.int .u8 S0, .int .u8 O0] 156)) from pair_at (bel1 x2 _) hp1
      clear hb hq1 hp1 HQ1 HB1 K2
      go_upto_region 6 with fail
      change Code.wp _ _ _ _ (x2.alloc (.cells #[.int .u8 S0, .int .u8 O0] 156))
      obtain ⟨z2, hz2⟩ : ∃ z, x2.alloc (.cells #[.int .u8 S0, .int .u8 O0] 156) = z := ⟨_, rfl⟩
      obtain ⟨B2, hBB2⟩ : ∃ B, x2.heap.size = B := ⟨_, rfl⟩
      rw [hz2] at hB2 hq2 hp2 ⊢
      rw [hBB2] at hB2 ⊢
      have HQ2 := Lib.hid hq2; have HB1 := Lib.hid hp2; have HB2 := Lib.hid (show PB B2 S0 O0 156 z2 from hB2)
      clear hz2 hBB2 hB2 hq2 hp2
      obtain ⟨v0, v1, v2, _⟩ := HQ2.out.v.all
      go_wp2_with fail
      refine (K3.out _ HQ2.out.t).mono ?_
      rintro e x3 ⟨rfl, hb⟩
      have hq1 := HQ2.out.below hb
      have hp1 := show PB B1 S0 O0 86 x3 from pair_at hb HB1.out
      have hp2 := show PB B2 S0 O0 156 x3 from pair_at hb HB2.out
      have hB3 := heap_new x3 (.cells #[.int .u8 so, .int .u8 oo] 86)
      have hb3 := bel1 x3 (.cells #[.int .u8 so, .int .u8 oo] 86)
      have hq2 := hq1.below hb3
      have hr1 := show PB B1 S0 O0 86 (x3.alloc (.cells #[.int .u8 so, .int .u8 oo] 86)) from pair_at hb3 hp1
      have hr2 := show PB B2 S0 O0 156 (x3.alloc (.cells #[.int .u8 so, .int .u8 oo] 86)) from pair_at hb3 hp2
      clear hb hq1 hp1 hp2 hb3 HQ2 HB1 HB2 K3 v0 v1 v2
      go_upto_region 7 with fail
      change Code.wp _ _ _ _ (x3.alloc (.cells #[.int .u8 so, .int .u8 oo] 86))
      obtain ⟨z3, hz3⟩ : ∃ z, x3.alloc (.cells #[.int .u8 so, .int .u8 oo] 86) = z := ⟨_, rfl⟩
      obtain ⟨B3, hBB3⟩ : ∃ B, x3.heap.size = B := ⟨_, rfl⟩
      rw [hz3] at hB3 hq2 hr1 hr2 ⊢
      rw [hBB3] at hB3 ⊢
      have HQ3 := Lib.hid hq2; have HB1 := Lib.hid hr1; have HB2 := Lib.hid hr2; have HB3 := Lib.hid (show PB B3 so oo 86 z3 from hB3)
      clear hz3 hBB3 hB3 hq2 hr1 hr2
      go_wp2_with fail
      refine (K4.out _ HQ3.out.t).mono ?_
      rintro e x4 ⟨rfl, hb⟩
      have hq1 := HQ3.out.below hb
      have hp1 := show PB B1 S0 O0 86 x4 from pair_at hb HB1.out
      have hp2 := show PB B2 S0 O0 156 x4 from pair_at hb HB2.out
      have hp3 := show PB B3 so oo 86 x4 from pair_at hb HB3.out
      have hB4 := heap_new x4 (.cells #[.int .u8 so, .int .u8 oo] 156)
      have hb4 := bel1 x4 (.cells #[.int .u8 so, .int .u8 oo] 156)
      have hq2 := hq1.below hb4
      have hr1 := show PB B1 S0 O0 86 (x4.alloc (.cells #[.int .u8 so, .int .u8 oo] 156)) from pair_at hb4 hp1
      have hr2 := show PB B2 S0 O0 156 (x4.alloc (.cells #[.int .u8 so, .int .u8 oo] 156)) from pair_at hb4 hp2
      have hr3 := show PB B3 so oo 86 (x4.alloc (.cells #[.int .u8 so, .int .u8 oo] 156)) from pair_at hb4 hp3
      clear hb hq1 hp1 hp2 hp3 hb4 HQ3 HB1 HB2 HB3 K4
      go_upto_region 8 with fail
      change Code.wp _ _ _ _ (x4.alloc (.cells #[.int .u8 so, .int .u8 oo] 156))
      obtain ⟨z4, hz4⟩ : ∃ z, x4.alloc (.cells #[.int .u8 so, .int .u8 oo] 156) = z := ⟨_, rfl⟩
      obtain ⟨B4, hBB4⟩ : ∃ B, x4.heap.size = B := ⟨_, rfl⟩
      rw [hz4] at hB4 hq2 hr1 hr2 hr3 ⊢
      rw [hBB4] at hB4 ⊢
      have HQF := Lib.hid hq2
      have a0 := (cell_blk hr1 0).1; have a1 := (cell_blk hr1 1).1
      have b0 := (cell_blk hr2 0).1; have b1 := (cell_blk hr2 1).1
      have c0 := (cell_blk hr3 0).1; have c1 := (cell_blk hr3 1).1
      have d0 := (cell_blk hB4 0).1; have d1 := (cell_blk hB4 1).1
      clear hz4 hBB4 hB4 hq2 hr1 hr2 hr3
      have e1 : (E0 != E0) = false := by simp
      have e2 : (at_ != at_) = false := by simp
      have e3 : (er != er) = false := by simp
      have hnx : i + 1 = ((t + 1 : Nat) : Int) - 1 := by omega
      have HNX := Lib.hid hnx
      have ht1 : t + 1 ≤ n + 2 := by omega
      have hi1 : -1 ≤ i := by omega
      have hw : wrap64 (i + 1) = i + 1 := IntWalk.wrap64_in _ ⟨by omega, by omega⟩
      clear hnx hi
      go_wp2_with fail
      go_roundw
      case rel => exact ⟨t + 1, ht1, by rw [← HNX.out], HQF.out⟩
      case measure => simp [intOf]; omega
    · have HQF := Lib.hid HQ.out
      have hne : i = (n : Int) + 1 := by omega
      go_wp2_with fail
      refine (tlen_any (some ⟨A, 0, none⟩) 96 n _).mono ?_
      rintro e x1 ⟨rfl, hb⟩
      have HF := Lib.hid (HQF.out.b.trans (hb.mono HQF.out.b.size))
      clear hb HQ HQF v0 v1 v2
      have en : ((n : Int) == (n : Int)) = true := beq_self_eq_true _
      go_wp2_with fail
      go_ret
      exact ⟨rfl, HF.out⟩
end Go.Proofs.Ytglfllnemenhnaa.Bt
/- Lay, the program's and the document's, on rows that agree; acts of tags that came in, opened. -/
namespace Go.Proofs.Ytglfllnemenhnaa.Bt
open Go Go.RowKit Go.Shelf Go.ChangeShapes Go.WideShapes Go.Deep
set_option linter.unusedVariables false
set_option linter.unusedSimpArgs false

def gSt (m : Nat → UInt8) (n k : Nat) : Int := tagS (gC (fullS 1 m) 96 n (k : Int))
def gOd (m : Nat → UInt8) (n k : Nat) : Int := tagO (gC (fullS 1 m) 96 n (k : Int))
theorem lay_tells (m : Nat → UInt8) (n iN P on : Nat) (hn : n ≤ 300) (hfit : iN + P ≤ n) (hP : 1 ≤ P) (ho : on ≤ 10) (s0 : Int) (hs : begB s0 = true) (k : Nat) (hk : k < n) :
    stL (gSt m n) iN P s0 k = gSt (layM m (96 + iN) P s0 on 1) n k ∧ odL (gOd m n) iN P on s0 k = gOd (layM m (96 + iN) P s0 on 1) n k := by
  have hs0 : s0 = 2 ∨ s0 = 3 := by unfold begB at hs; simpa using hs
  have hne : s0 ≠ 0 := by omega
  have hcb : 0 ≤ codeI s0 on ∧ codeI s0 on ≤ 255 := by unfold codeI; omega
  have gs : ∀ m', gSt m' n k = tagS ((m' (96 + k)).toNat : Int) := fun m' => by unfold gSt; rw [gC_full m' 96 n (by omega) k hk]
  have gd : ∀ m', gOd m' n k = tagO ((m' (96 + k)).toNat : Int) := fun m' => by unfold gOd; rw [gC_full m' 96 n (by omega) k hk]
  unfold stL odL
  rw [gs, gs, gd, gd]
  by_cases h : iN ≤ k ∧ k < iN + P
  · rw [if_pos h, if_pos h, if_neg hne]
    by_cases e : k = iN
    · subst e
      rw [if_pos rfl, if_pos ⟨hne, rfl⟩, layM_first _ _ _ _ _ _ hcb]
      obtain ⟨t1, t2⟩ := tag_code s0 on (.inl hs) (by omega) (by omega)
      exact ⟨t1.symm, t2.symm⟩
    · rw [if_neg e, if_neg (fun hh => e hh.2)]
      have hl := layM_other m (96 + iN) P s0 on 1 (k - iN) (by omega) (by omega)
      rw [show 96 + iN + (k - iN) = 96 + k by omega] at hl
      rw [hl]
      exact ⟨tag_one.1.symm, tag_one.2.symm⟩
  · rw [if_neg h, if_neg h, layM_out m (96 + iN) P hP s0 on 1 (96 + k) (by omega)]
    exact ⟨rfl, rfl⟩
theorem lay_none (m : Nat → UInt8) (n iN P on : Nat) (hn : n ≤ 300) (hfit : iN + P ≤ n) (hP : 1 ≤ P) (k : Nat) (hk : k < n) :
    stL (gSt m n) iN P 0 k = gSt (layM m (96 + iN) P 0 0 0) n k ∧ odL (gOd m n) iN P on 0 k = gOd (layM m (96 + iN) P 0 0 0) n k := by
  have hcb : 0 ≤ codeI 0 0 ∧ codeI 0 0 ≤ 255 := by unfold codeI; omega
  have gs : ∀ m', gSt m' n k = tagS ((m' (96 + k)).toNat : Int) := fun m' => by unfold gSt; rw [gC_full m' 96 n (by omega) k hk]
  have gd : ∀ m', gOd m' n k = tagO ((m' (96 + k)).toNat : Int) := fun m' => by unfold gOd; rw [gC_full m' 96 n (by omega) k hk]
  unfold stL odL
  rw [gs, gs, gd, gd]
  by_cases h : iN ≤ k ∧ k < iN + P
  · rw [if_pos h, if_pos h, if_pos rfl, if_neg (fun hh => hh.1 rfl)]
    by_cases e : k = iN
    · subst e
      rw [layM_first _ _ _ _ _ _ hcb]
      exact ⟨rfl, rfl⟩
    · have hl := layM_other m (96 + iN) P 0 0 0 (k - iN) (by omega) (by omega)
      rw [show 96 + iN + (k - iN) = 96 + k by omega] at hl
      rw [hl]
      exact ⟨tag_nought.1.symm, tag_nought.2.symm⟩
  · rw [if_neg h, if_neg h, layM_out m (96 + iN) P hP 0 0 0 (96 + k) (by omega)]
    exact ⟨rfl, rfl⟩
/-- between two acts -/
structure TI (V A N n : Nat) (m : Nat → UInt8) (w x : World) : Prop where
  v : VT V (some ⟨A, 0, none⟩) 96 n x
  o : On A (fullS 1 m) x
  t : TgB N n (gSt m n) (gOd m n) x
  b : Base A w x
theorem TI.below {V A N n : Nat} {m : Nat → UInt8} {w x y : World} (h : TI V A N n m w x) (hb : Below x.heap.size x y) : TI V A N n m w y := ⟨h.v.below hb, h.o.below hb, (hb.block _ (Array.getElem?_eq_some_iff.1 h.t).1).trans h.t, h.b.below h.o hb⟩
theorem TI.tw {V A N n : Nat} {m : Nat → UInt8} {w x : World} (h : TI V A N n m w x) : Tw A N n m x := ⟨h.o, h.t.at⟩
structure Act6 where
  i : Int
  o : Int
  s : Int
structure Act6.ok (a : Act6) : Prop where
  i0 : -9223372036854775808 ≤ a.i
  i1 : a.i ≤ 9223372036854775807
  o0 : -9223372036854775808 ≤ a.o
  o1 : a.o ≤ 9223372036854775807
  s0 : 0 ≤ a.s
  s1 : a.s ≤ 255
def Act6Cells (w : World) (b off : Nat) (a : Act6) : Prop :=
  w.cell? ⟨b, off, none⟩ = some (.int .i64 a.i) ∧ w.cell? ⟨b, off + 1, none⟩ = some (.int .i64 a.o) ∧ w.cell? ⟨b, off + 2, none⟩ = some (.int .u8 a.s)
def Acts6At (w : World) (p : Option Addr) (acts : List Act6) : Prop :=
  (acts = []) ∨ ∃ b off, p = some ⟨b, off, none⟩ ∧ b < w.heap.size ∧ ∀ i (h : i < acts.length), Act6Cells w b (off + i * 3) acts[i] ∧ acts[i].ok
theorem Try.cellsAct6 : Try.prog.cellsOf 77 = 3 := by kernel_rfl
theorem Try.cellsU8t : Try.prog.cellsOf 5 = 1 := by kernel_rfl
set_option maxRecDepth 100000 in
theorem acts6_open {H : Type} {enc : TypeId × Value → H} {w : World} {fuel : Nat} {v : Value} {x : DataW H × List MemPlace} {a : Option Addr} {len cap : Nat} (hv : v = .slice a len cap)
    (h : DataW.trod enc Try.prog w 0 (fun _ => true) true fuel 70 v.cells.toList = some x) : ∃ acts : List Act6, acts.length = len ∧ len ≤ 9223372036854775807 ∧ Acts6At w a acts := by
  subst hv
  rcases open_slice Try.underlying70 h with ⟨h1, _⟩ | ⟨ad, len', cap', m, n, D, Pl, h1, _, hl, hm, hmm, _, hi⟩
  · simp [Value.cells] at h1
    exact ⟨[], by simp [h1.2.1], by omega, .inl rfl⟩
  · simp [Value.cells] at h1
    obtain ⟨rfl, rfl, rfl⟩ := h1
    unfold maxLen at hm
    have hlm : len ≤ m := by rw [hmm]; simp; omega
    have key : ∀ i, i < len → ∃ act : Act6, act.ok ∧ w.cell? (ad.add (i * 3)) = some (.int .i64 act.i) ∧ w.cell? (ad.add (i * 3 + 1)) = some (.int .i64 act.o) ∧ w.cell? (ad.add (i * 3 + 2)) = some (.int .u8 act.s) := by
      intro i hilt
      obtain ⟨cs', hc, ht⟩ := hi i (by omega)
      rw [Try.cellsAct6] at hc
      obtain ⟨_, hcl, hat⟩ := World.cells?_some hc
      obtain ⟨y0, y1, y2, k, _, _, e0, e1, e2⟩ := trod_struct3 Try.underlying77 ht
      match cs', hcl with
      | [c0, c1, c2], _ =>
        simp only [Try.cellsInt, Try.cellsU8t, List.drop_zero, List.drop_succ_cons, List.take_succ_cons, List.take_zero] at e0 e1 e2
        obtain ⟨d, hd, _, wd⟩ := DataW.trod_int Try.underlying3 e0
        obtain ⟨f, hf, _, wf⟩ := DataW.trod_int Try.underlying3 e1
        obtain ⟨g, hg, _, wg⟩ := DataW.trod_int Try.underlying5 e2
        simp only [List.cons.injEq, and_true] at hd hf hg
        subst hd hf hg
        have b0 := bounds_i64 wd
        have b1 := bounds_i64 wf
        have b2 := bounds_u8 wg
        have a0 := hat 0 (by omega)
        have a1 := hat 1 (by omega)
        have a2 := hat 2 (by omega)
        rw [add_add] at a0 a1 a2
        exact ⟨⟨d, f, g⟩, ⟨b0.1, b0.2, b1.1, b1.2, b2.1, b2.2⟩, by simpa using a0, by simpa using a1, by simpa using a2⟩
    refine ⟨(List.range len).attach.map fun i => Classical.choose (key i.1 (List.mem_range.1 i.2)), by simp, by omega, ?_⟩
    by_cases h0 : len = 0
    · subst h0; exact .inl rfl
    · have k0 := (Classical.choose_spec (key 0 (by omega))).2.1
      obtain ⟨b, off, spot⟩ := ad
      have hspot : spot = none := by simpa [Addr.add] using World.cell?_spot k0
      subst hspot
      refine .inr ⟨b, off, rfl, World.block_lt_of_cell? _ _ (by simpa [Addr.add] using k0), fun i hil => ?_⟩
      have hil' : i < len := by simpa using hil
      have ks := Classical.choose_spec (key i hil')
      have eA : ∀ j, (⟨b, off, none⟩ : Addr).add j = ⟨b, off + j, none⟩ := fun j => by
        simp only [Addr.add]; split <;> simp_all
      simp only [List.getElem_map, List.getElem_attach, List.getElem_range]
      exact ⟨⟨(congrArg w.cell? (eA _).symm).trans ks.2.1, (congrArg w.cell? (eA (i * 3 + 1)).symm).trans ks.2.2.1, (congrArg w.cell? (eA (i * 3 + 2)).symm).trans ks.2.2.2⟩, ks.1⟩
end Go.Proofs.Ytglfllnemenhnaa.Bt
/- The walk of TagsPlay. (Written by gen_rti.py.) -/
namespace Go.Proofs.Ytglfllnemenhnaa.Bt
open Go Go.RowKit Go.Shelf
set_option linter.unusedVariables false
set_option linter.unusedSimpArgs false

def LayD (n : Nat) (m m' : Nat → UInt8) (a : Act6) (er : Int) : Prop :=
  ∀ N y, TgB N n (gSt m n) (gOd m n) y → Calls Try.prog 33 #[.slice (some ⟨N, 0, none⟩) n n, .int .i64 a.i, .int .i64 a.o, .int .u8 a.s] y
    fun e y2 => ∃ N', e = .returned (.tuple #[.slice (some ⟨N', 0, none⟩) n n, .int .i64 er]) ∧ TgB N' n (gSt m' n) (gOd m' n) y2 ∧ Below y.heap.size y y2
def LayC (A n : Nat) (m : Nat → UInt8) (a : Act6) (er : Int) (x : World) (e : Ending) (x1 : World) : Prop :=
  e = .returned (.int .i64 er) ∧ Went A x x1 ∧ ∃ m', On A (fullS 1 m') x1 ∧ LayD n m m' a er
theorem both_lay (A n : Nat) (hn : n ≤ 300) (m : Nat → UInt8) (x : World) (h : On A (fullS 1 m) x) (a : Act6) (hk : a.ok) :
    ∃ er, Calls Try.prog 32 #[tbP (some ⟨A, 0, none⟩) 96 n, .int .i64 a.i, .int .i64 a.o, .int .u8 a.s] x (LayC A n m a er x) := by
  obtain ⟨i, o, st⟩ := a
  have i1 : i ≤ 9223372036854775807 := hk.i1
  by_cases hb : layB o st = false
  · refine ⟨2, (tlay_arg 96 n i o st hb).mono ?_⟩
    rintro e x1 ⟨rfl, hbl⟩
    refine ⟨rfl, Went.of_below h hbl, m, h.below hbl, fun N y hy => ?_⟩
    refine (rlay_arg (some ⟨N, 0, none⟩) n n i o st ?_ y).mono ?_
    · unfold layB begB at hb
      simp only [Bool.and_eq_false_iff, Bool.or_eq_false_iff, decide_eq_false_iff_not] at hb
      have := hk.s0
      have h0 : 0 ≤ st := hk.s0
      omega
    · rintro e y2 ⟨rfl, rfl⟩
      exact ⟨N, rfl, hy, Below.refl _ _⟩
  · have hb2 : layB o st = true := by simpa using hb
    unfold layB at hb2
    simp only [Bool.and_eq_true, decide_eq_true_eq, Bool.or_eq_true] at hb2
    obtain ⟨⟨o0, o1⟩, hbs⟩ := hb2
    obtain ⟨on, rfl⟩ := Int.eq_ofNat_of_zero_le o0
    have hst : st = 0 ∨ st = 2 ∨ st = 3 := by
      rcases hbs with h1 | h1
      · unfold begB at h1; have := of_decide_eq_true h1; omega
      · exact .inl h1
    have hE := lay_at m 96 n (by omega) i on
    have hpw := (pow_n on (by omega)).2
    by_cases hin : 0 ≤ i ∧ i + (2 ^ on : Nat) ≤ (n : Int)
    · rw [if_pos hin] at hE
      obtain ⟨iN, rfl⟩ := Int.eq_ofNat_of_zero_le hin.1
      obtain ⟨P, hP⟩ : ∃ P, 2 ^ on = P := ⟨_, rfl⟩
      have hA := lay_addr 96 n iN on (by have := hin.2; omega)
      rw [hP] at hin hpw
      have hfit : iN + P ≤ n := by omega
      rcases hbs with hbg | hz
      · refine ⟨0, (tlay_yes h 96 n (by omega) (by omega) iN st on (96 + iN) P i1 (by omega) st on 1 (.inl ⟨hbg, rfl, rfl, rfl⟩) hP hA hE).mono ?_⟩
        rintro e x1 ⟨rfl, ho, hg⟩
        refine ⟨rfl, hg, layM m (96 + iN) P st on 1, ho, fun N y hy => ?_⟩
        refine (rlay_ok N n (by omega) iN on P (by omega) hP hfit st hst _ _ y hy.at).mono ?_
        rintro e y2 ⟨O, rfl, ht, hO, hbl⟩
        exact ⟨O, rfl, ht.ext fun k hk2 => lay_tells m n iN P on hn hfit hpw.1 (by omega) st hbg k hk2, hbl⟩
      · subst hz
        refine ⟨0, (tlay_yes h 96 n (by omega) (by omega) iN 0 on (96 + iN) P i1 (by omega) 0 0 0 (.inr ⟨rfl, rfl, rfl, rfl⟩) hP hA hE).mono ?_⟩
        rintro e x1 ⟨rfl, ho, hg⟩
        refine ⟨rfl, hg, layM m (96 + iN) P 0 0 0, ho, fun N y hy => ?_⟩
        refine (rlay_ok N n (by omega) iN on P (by omega) hP hfit 0 hst _ _ y hy.at).mono ?_
        rintro e y2 ⟨O, rfl, ht, hO, hbl⟩
        exact ⟨O, rfl, ht.ext fun k hk2 => lay_none m n iN P on hn hfit hpw.1 k hk2, hbl⟩
    · rw [if_neg hin] at hE
      refine ⟨3, (tlay_no h 96 n (by omega) (by omega) i st on i1 (by omega) hbs hE).mono ?_⟩
      rintro e x1 ⟨rfl, hbl⟩
      refine ⟨rfl, Went.of_below h hbl, m, h.below hbl, fun N y hy => ?_⟩
      refine (rlay_no (some ⟨N, 0, none⟩) n n (by omega) i st on (by omega) (by omega) (by omega) (by omega) y).mono ?_
      rintro e y2 ⟨rfl, rfl⟩
      exact ⟨N, rfl, hy, Below.refl _ _⟩
theorem tag_zero (n k : Nat) (hn : n ≤ 300) (hk : k < n) : (0 : Int) = gSt (fun _ => 0) n k ∧ (0 : Int) = gOd (fun _ => 0) n k := by
  unfold gSt gOd
  rw [gC_full _ 96 n (by omega) k hk]
  exact ⟨tag_nought.1.symm, tag_nought.2.symm⟩
def YB (T : Nat) (y : Act6) (x : World) : Prop := x.heap[T]? = some (.cells #[.int .i64 y.i, .int .i64 y.o, .int .u8 y.s] 77 (0, 0))
set_option maxHeartbeats 16000000 in
set_option maxRecDepth 100000 in
theorem plays6_all (a0 : Int) (h0 : 0 ≤ a0) (h16 : a0 ≤ 65535) (p : Option Addr) (len cap : Nat) (acts : List Act6) (hlen : acts.length = len) (hl63 : len ≤ 9223372036854775807) (w : World) (hrow : Acts6At w p acts) :
    Calls Try.prog 5 #[.int .u16 a0, .slice p len cap] w (TrueAt w) := by
  obtain ⟨n, hn⟩ : ∃ n : Nat, (a0.toNat % 301) = n := ⟨_, rfl⟩
  have hn300 : n ≤ 300 := by omega
  have qc : IntKind.i64.wrap a0 = a0 := IntWalk.i64_in _ (by omega)
  have qd : wrap64 a0 = a0 := IntWalk.wrap64_in _ ⟨by omega, by omega⟩
  have q0 : a0 % 301 = (n : Int) := by omega
  have q1 : a0.tmod 301 = (n : Int) := by rw [Int.tmod_eq_emod_of_nonneg h0]; exact q0
  have HR := Lib.hid hrow
  have HLN := Lib.hid hlen
  have HMK := Lib.hid (run_tags n (by omega))
  clear hrow hn hlen
  go_enter Try.func5, Try.ntmps5
  go_wp2_with fail
  refine (awake6 _).mono ?_
  rintro e w0 ⟨rfl, hb0⟩
  by_cases hl40 : 40 < len
  · have h40 : 40 < (len : Int) := by omega
    have HB0 := Lib.hid hb0
    clear hb0 q0 q1 qc qd
    go_wp2_with fail
    go_ret
    exact ⟨rfl, HB0.out⟩
  have h40 : (len : Int) ≤ 40 := by omega
  have HB0 := Lib.hid hb0
  clear hb0
  go_wp2_with fail
  refine (lopen_any n (by omega) _).mono ?_
  rintro e w1 ⟨A, rfl, hx, hb⟩
  have HX1 := Lib.hid hx
  have HB1 := Lib.hid (hb.rebase HB0.out)
  clear hx hb HB0 hl40 hl63 h16 q0 q1 qc qd
  go_upto_region 7 with fail
  have hV := heap_new w1 (.cells #[.pointer (some ⟨A, 0, none⟩), .int .i64 96, .int .i64 (n : Int)] 72)
  have hbv := bel1 w1 (.cells #[.pointer (some ⟨A, 0, none⟩), .int .i64 96, .int .i64 (n : Int)] 72)
  have hx2 := HX1.out.below hbv
  have hb2 := HB1.out.below HX1.out hbv
  change Code.wp _ _ _ _ (w1.alloc (.cells #[.pointer (some ⟨A, 0, none⟩), .int .i64 96, .int .i64 (n : Int)] 72))
  obtain ⟨w2, hw2⟩ : ∃ z, w1.alloc (.cells #[.pointer (some ⟨A, 0, none⟩), .int .i64 96, .int .i64 (n : Int)] 72) = z := ⟨_, rfl⟩
  obtain ⟨V, hVV⟩ : ∃ V, w1.heap.size = V := ⟨_, rfl⟩
  rw [hw2] at hV hx2 hb2 ⊢
  rw [hVV] at hV ⊢
  have HV2 := Lib.hid (show VT V (some ⟨A, 0, none⟩) 96 n w2 from hV); have HX2 := Lib.hid hx2; have HB2 := Lib.hid hb2
  clear hV hbv hx2 hb2 hw2 hVV HX1 HB1
  have hmk := HMK.out
  have hbt := bel1 w2 (.cells (tgC n (fun _ => 0) (fun _ => 0)) 156)
  have HST := Lib.hid (show TI V A w2.heap.size n (fun _ => 0) w (w2.alloc (.cells (tgC n (fun _ => 0) (fun _ => 0)) 156)) from
    ⟨HV2.out.below hbt, HX2.out.below hbt, TgB.ext (show TgB w2.heap.size n (fun _ => 0) (fun _ => 0) _ from heap_new w2 _) (fun k hk => tag_zero n k hn300 hk), HB2.out.below HX2.out hbt⟩)
  clear HV2 HX2 HB2 HMK hbt
  go_wp2_with fail
  go_loopw [9, 37] (fun s9 s37 wr => ∃ (i N : Nat) (m : Nat → UInt8), i ≤ len ∧ s37 = .int .i64 (i : Int) ∧ s9 = .slice (some ⟨N, 0, none⟩) n n ∧ TI V A N n m w wr) (fun _ s37 _ => len - (intOf s37).toNat)
  case atStart => exact ⟨0, _, _, Nat.zero_le _, rfl, rfl, HST.out⟩
  case round =>
    clear HST hmk
    obtain ⟨i, N, m, hi, rfl, rfl, hti⟩ := hrel
    have HT := Lib.hid hti
    clear hti
    by_cases hlt : i < len
    · rcases HR.out with he | ⟨pb, off, rfl, hbl, hc⟩
      · have := HLN.out; rw [he] at this; simp at this; omega
      obtain ⟨y, hy⟩ : ∃ y, acts[i]'(by rw [HLN.out]; exact hlt) = y := ⟨_, rfl⟩
      obtain ⟨⟨a0_, a1_, a2_⟩, hyk⟩ := hc i (by rw [HLN.out]; exact hlt)
      rw [hy] at a0_ a1_ a2_ hyk
      have HYK := Lib.hid hyk
      have b0 := (HT.out.b.bel.cell (p := ⟨pb, off + i * 3, none⟩) hbl).trans a0_
      have b1 := (HT.out.b.bel.cell (p := ⟨pb, off + i * 3 + 1, none⟩) hbl).trans a1_
      have b2 := (HT.out.b.bel.cell (p := ⟨pb, off + i * 3 + 2, none⟩) hbl).trans a2_
      have hY := heap_new wr (.cells #[.int .i64 y.i, .int .i64 y.o, .int .u8 y.s] 77)
      have hpT := HT.out.below (bel1 wr (.cells #[.int .i64 y.i, .int .i64 y.o, .int .u8 y.s] 77))
      clear hc hy a0_ a1_ a2_ hyk
      go_upto_region 13 with fail
      change Code.wp _ _ _ _ (wr.alloc (.cells #[.int .i64 y.i, .int .i64 y.o, .int .u8 y.s] 77))
      obtain ⟨x, hx⟩ : ∃ x, wr.alloc (.cells #[.int .i64 y.i, .int .i64 y.o, .int .u8 y.s] 77) = x := ⟨_, rfl⟩
      obtain ⟨T, hTT⟩ : ∃ T, wr.heap.size = T := ⟨_, rfl⟩
      rw [hx] at hY hpT ⊢
      rw [hTT] at hY ⊢
      have HY := Lib.hid (show YB T y x from hY); have HP := Lib.hid hpT
      clear hY hpT hx hTT b0 b1 b2 HT
      obtain ⟨er, hcall⟩ := both_lay A n hn300 m x HP.out.o y HYK.out
      have HCL := Lib.hid hcall
      clear hcall
      have t0 := (cell_blk HY.out 0).1; have t1 := (cell_blk HY.out 1).1; have t2 := (cell_blk HY.out 2).1
      obtain ⟨v0, v1, v2, _⟩ := HP.out.v.all
      go_wp2_with fail
      refine HCL.out.mono ?_
      rintro e x1 ⟨rfl, hg, m1, ho, hd⟩
      have HD := Lib.hid hd
      have HY1 := Lib.hid (show YB T y x1 from hg.keep HP.out.o HY.out (by decide) (by decide) (by decide))
      have HV1 := Lib.hid (show VT V (some ⟨A, 0, none⟩) 96 n x1 from hg.keep HP.out.o HP.out.v (by decide) (by decide) (by decide))
      have HN1 := Lib.hid (show TgB N n (gSt m n) (gOd m n) x1 from hg.keep HP.out.o HP.out.t (by decide) (by decide) (by decide))
      have HO1 := Lib.hid ho
      have HB1 := Lib.hid (HP.out.b.went hg)
      clear hg ho hd HCL HY HP t0 t1 t2 v0 v1 v2
      have t0 := (cell_blk HY1.out 0).1; have t1 := (cell_blk HY1.out 1).1; have t2 := (cell_blk HY1.out 2).1
      go_wp2_with fail
      refine (HD.out N _ HN1.out).mono ?_
      rintro e x2 ⟨N2, rfl, ht2, hb⟩
      have HT2 := Lib.hid (show TI V A N2 n m1 w x2 from ⟨HV1.out.below hb, HO1.out.below hb, ht2, HB1.out.below HO1.out hb⟩)
      clear ht2 hb HD HY1 HV1 HN1 HO1 HB1 t0 t1 t2
      obtain ⟨v0, v1, v2, _⟩ := HT2.out.v.all
      have der : (er != er) = false := by simp
      go_wp2_with fail
      refine (told6_any A N2 n hn300 m1 _ HT2.out.tw).mono ?_
      rintro e x3 ⟨rfl, hb⟩
      have HT3 := Lib.hid (HT2.out.below hb)
      clear hb HT2 v0 v1 v2
      go_wp2_with fail
      go_roundw
      case rel => exact ⟨i + 1, N2, m1, by omega, by go_num, rfl, HT3.out⟩
      case measure => simp [intOf]; omega
    · have hin : i = len := by omega
      subst hin
      have T1 : Hid (thereE (fullS 1 m).L (fullS 1 m).es 96 n = 0) := Lib.hid (by
        show thereE 1 [0, 1] 96 n = 0
        rw [thereE_full (by omega) (by omega), if_pos (by omega)])
      have HV : Hid (∀ pu a k, ofV pu a k 0 = .agg #[.pointer pu, .int .i64 a, .int .i64 k]) := Lib.hid fun pu a k => by unfold ofV; rw [if_pos rfl]
      obtain ⟨P2, ps2, p2, n2, cap2, hax⟩ := HT.out.o
      have HCL := Lib.hid (clone_any hax)
      have HNT := Lib.hid HT.out.t
      have HBW := Lib.hid HT.out.b.bel
      clear hax HT hlt HR HLN
      go_wp2_with fail
      refine HCL.out.mono ?_
      rintro e w3 ⟨A2, rfl, hx3, hb3, hA2, hown, hedg⟩
      have HX3 := Lib.hid hx3
      have HN3 := Lib.hid (show TgB N n (gSt m n) (gOd m n) w3 from (hb3.block _ (Array.getElem?_eq_some_iff.1 HNT.out).1).trans HNT.out)
      have HB3 := Lib.hid (HBW.out.trans (hb3.mono HBW.out.size))
      clear hx3 hb3 hA2 hown hedg HNT HBW HCL
      go_wp2_with fail
      refine (on_of HX3.out 96 n (by omega)).mono ?_
      rintro e w4 ⟨rfl, hb⟩
      rw [T1.out, HV.out]
      have HX4 := Lib.hid (HX3.out.below hb)
      have HN4 := Lib.hid (show TgB N n (gSt m n) (gOd m n) w4 from (hb.block _ (Array.getElem?_eq_some_iff.1 HN3.out).1).trans HN3.out)
      have HB4 := Lib.hid (HB3.out.trans (hb.mono HB3.out.size))
      clear hb HX3 HN3 HB3
      go_wp2_with fail
      have hbv := bel1 w4 (.cells #[.pointer (some ⟨A2, 0, none⟩), .int .i64 96, .int .i64 (n : Int)] 31)
      have HX5 := Lib.hid (HX4.out.below hbv)
      have HN5 := Lib.hid (show TgB N n (gSt m n) (gOd m n) _ from (hbv.block _ (Array.getElem?_eq_some_iff.1 HN4.out).1).trans HN4.out)
      have HB5 := Lib.hid (HB4.out.trans (hbv.mono HB4.out.size))
      clear hbv HX4 HN4 HB4
      refine (topen_any (some ⟨A2, 0, none⟩) 96 n _).mono ?_
      rintro e w6 ⟨rfl, hb⟩
      have HTW := Lib.hid (show Tw A2 N n m w6 from ⟨HX5.out.below hb, (show TgB N n (gSt m n) (gOd m n) w6 from (hb.block _ (Array.getElem?_eq_some_iff.1 HN5.out).1).trans HN5.out).at⟩)
      have HB6 := Lib.hid (HB5.out.trans (hb.mono HB5.out.size))
      clear hb HX5 HN5 HB5
      go_wp2_with fail
      refine (told6_any A2 N n hn300 m _ HTW.out).mono ?_
      rintro e w7 ⟨rfl, hb⟩
      have HB7 := Lib.hid (HB6.out.trans (hb.mono HB6.out.size))
      clear hb
      go_wp2_with fail
      go_ret
      exact ⟨rfl, HB7.out⟩
end Go.Proofs.Ytglfllnemenhnaa.Bt
