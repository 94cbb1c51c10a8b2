/- The contract of Rows and of the function value that it answers: the longest rows of a set in memory, as pairs, by rising numbers, for every loop body that keeps what lay there. -/
import Derived.Test.YtmnhpmgffhpoeaaGreatBitsWalksF
import Derived.RangeFuncBox
import Derived.RangeFuncLeaves
import Derived.Shelf.Abstract
import Derived.OwnWalkIn
import Derived.TacticsInMore
import Derived.LoopNIn
import Derived.LoopIn
import Derived.Test.YtmnhpmgffhpoeaaGreatStillIn
namespace Go.Proofs.YtmnhpmgffhpoeaaGreat.Bt
open Go Go.RowKit Go.Shelf

attribute [local go_sem] Oper.semAt_some

/-- a row: its first number, and how many -/
abbrev Pr := { x : Nat × Nat // 0 < x.2 ∧ x.1 + x.2 ≤ 1048576 }
def mkPr (a c : Nat) : Pr := if h : a < c ∧ c ≤ 1048576 then ⟨(a, c - a), by omega, by simp; omega⟩ else ⟨(0, 1), by decide, by decide⟩
def encPr (x : Pr) : Array Value := #[.int .i64 (x.1.1 : Int), .int .i64 (x.1.2 : Int)]
def pairAt (es : List Nat) (j : Nat) : Pr := mkPr (es.getD (2 * j) 0) (es.getD (2 * j + 1) 0)
def pairsTo (es : List Nat) (k : Nat) : List Pr := (List.range k).map (pairAt es)
theorem pairsTo_succ (es : List Nat) (k : Nat) : pairsTo es (k + 1) = pairsTo es k ++ [pairAt es k] := by simp [pairsTo, List.range_succ]
theorem pairsTo_length (es : List Nat) (k : Nat) : (pairsTo es k).length = k := by simp [pairsTo]
def pairs (es : List Nat) : List Pr := pairsTo es (es.length / 2)

theorem pair_vals {L : Nat} {es : List Nat} (g : Good L es) {j : Nat} (hj : 2 * j + 1 < es.length) :
    (pairAt es j).1.1 = es.getD (2 * j) 0 ∧ ((pairAt es j).1.2 : Int) = (es.getD (2 * j + 1) 0 : Int) - (es.getD (2 * j) 0 : Int) := by
  have h1 := rising_get g.rising (show 2 * j < 2 * j + 1 by omega) hj
  have h2 : es.getD (2 * j + 1) 0 ≤ L := by
    apply g.le; rw [List.getD_eq_getElem?_getD, List.getElem?_eq_getElem hj]; exact List.getElem_mem _
  have h3 := g.small
  have h : es.getD (2 * j) 0 < es.getD (2 * j + 1) 0 ∧ es.getD (2 * j + 1) 0 ≤ 1048576 := by omega
  unfold pairAt mkPr
  rw [dif_pos h]
  refine ⟨rfl, ?_⟩
  show ((es.getD (2 * j + 1) 0 - es.getD (2 * j) 0 : Nat) : Int) = _
  omega

/-- two blocks lie as they lay -/
def K2 (x y : Nat) (W W' : World) : Prop := W'.heap[x]? = W.heap[x]? ∧ W'.heap[y]? = W.heap[y]?
theorem K2.refl {x y : Nat} (W : World) : K2 x y W W := ⟨rfl, rfl⟩
theorem K2.trans {x y : Nat} {A B C : World} (h : K2 x y A B) (k : K2 x y B C) : K2 x y A C := ⟨k.1.trans h.1, k.2.trans h.2⟩
theorem K2.drew {x y : Nat} (W : World) : K2 x y W W.drew := ⟨rfl, rfl⟩
theorem K2.one {x y : Nat} {A B : World} (h : K2 x y A B) (o : Nat) : B.cell? ⟨x, o, none⟩ = A.cell? ⟨x, o, none⟩ := World.cell?_of_block (w := A) (a := ⟨x, o, none⟩) h.1
theorem K2.two {x y : Nat} {A B : World} (h : K2 x y A B) (o : Nat) : B.cell? ⟨y, o, none⟩ = A.cell? ⟨y, o, none⟩ := World.cell?_of_block (w := A) (a := ⟨y, o, none⟩) h.2
theorem K2.put {x y : Nat} {w : World} (hx : x < w.heap.size) (hy : y < w.heap.size) (W : World) (l : Nat) (o o' : Obj) (hl : w.heap.size ≤ l) (_ : W.heap[l]? = some o) (_ : o.isCells = false) (_ : o.isWalk = false) : K2 x y W (W.putObj l o') :=
  ⟨World.putObj_heap_other (by omega), World.putObj_heap_other (by omega)⟩

set_option maxRecDepth 100000 in
set_option maxHeartbeats 2000000 in
theorem rows1_in (n : Nat) (l Bs b off L m cap : Nat) (es : List Nat) (g : Good L es) (hm : m = es.length) (J Jx : List Pr → World → Prop) (hdr : ∀ pre X, J pre X → J pre X.drew)
    (hY : ∀ pre x W, J pre W → pre.length < es.length / 2 → YieldAt Fence.wide (n - 1) Tryz.prog l (encPr x) W fun e W' =>
      (e = .returned (.bool true) ∧ J (pre ++ [x]) W' ∧ K2 Bs b W W') ∨ (e = .returned (.bool false) ∧ Jx (pre ++ [x]) W'))
    (W : World) (hB1 : W.cell? ⟨Bs, 1, none⟩ = some (.slice (some ⟨b, off, none⟩) m cap)) (hc : ∀ j, j < es.length → W.cell? ⟨b, off + j, none⟩ = some (.int .i64 ((es.getD j 0 : Nat) : Int))) (h0 : J [] W) :
    CallsIn Fence.wide n Tryz.prog 89 #[.func (.yield l) #[] #[], .pointer (some ⟨Bs, 0, none⟩)] W fun e W' => (∃ v, e = .returned v) ∧
      ((∃ ys, ys = pairs es ∧ J ys W') ∨ (∃ pre, (∃ k, k ≤ es.length / 2 ∧ pre = pairsTo es k) ∧ Jx pre W')) := by
  have hgl := good_len g
  have hev := g.even
  have HM := Lib.hid hm
  have hm2 : m ≤ 1048577 := by omega
  clear hm
  refine callsIn_of_wp Tryz.func89 rfl trivial ?_ rfl
  simp only [Tryz.ntmps89, List.size_toArray, List.length_cons, List.length_nil, Nat.reduceAdd, Nat.reduceSub, Array.replicate_succ, Array.replicate_zero, List.push_toArray, List.append_toArray, List.nil_append, List.cons_append]
  gi_wp2
  gi_loopw [3] (fun i wr => ∃ k : Nat, 2 * k ≤ m ∧ i = .int .i64 (2 * k : Nat) ∧ J (pairsTo es k) wr ∧ K2 Bs b W wr)
    (fun i _ => m - (intOf i).toNat)
  case atStart => exact ⟨0, by omega, rfl, h0, K2.refl _⟩
  case round =>
    obtain ⟨k, hk, rfl, hJs, hnx⟩ := hrel
    have HC := Lib.hid hc; clear hc
    have hbx : wr.cell? ⟨Bs, 1, none⟩ = some (.slice (some ⟨b, off, none⟩) m cap) := (hnx.one 1).trans hB1
    by_cases hlt : 2 * k + 1 < m
    · have hlt' : 2 * k + 1 < es.length := by rw [← HM.out]; exact hlt
      obtain ⟨p1, p2⟩ := pair_vals g hlt'
      obtain ⟨x, hx⟩ : ∃ x, pairAt es k = x := ⟨_, rfl⟩
      rw [hx] at p1 p2
      obtain ⟨u, hu⟩ : ∃ u : Nat, es.getD (2 * k) 0 = u := ⟨_, rfl⟩
      obtain ⟨v, hv⟩ : ∃ v : Nat, es.getD (2 * k + 1) 0 = v := ⟨_, rfl⟩
      have hcu : wr.cell? ⟨b, off + 2 * k, none⟩ = some (.int .i64 (u : Int)) := by rw [hnx.two, HC.out _ (by omega), hu]
      have hcv : wr.cell? ⟨b, off + (2 * k + 1), none⟩ = some (.int .i64 (v : Int)) := by rw [hnx.two, HC.out _ (by omega), hv]
      rw [hu, hv] at p2; rw [hu] at p1
      obtain ⟨fn, tmps, assign, body, hy, hR⟩ := hY _ x wr.drew (hdr _ _ hJs) (by rw [pairsTo_length]; omega)
      have hxx := x.2
      simp only [encPr] at hy
      rw [p1, p2] at hy
      have hvb : v ≤ 1048576 ∧ u < v := by omega
      have HX := Lib.hid hx; have HU := Lib.hid hu; have HV := Lib.hid hv; have HP1 := Lib.hid p1; have HP2 := Lib.hid p2
      clear hx hu hv p1 p2
      have w1 : IntKind.i64.wrap (2 * (k : Int) + 1) = 2 * (k : Int) + 1 := IntWalk.i64_in _ (by omega)
      have w2 : IntKind.i64.wrap ((v : Int) - u) = (v : Int) - u := IntWalk.i64_in _ (by omega)
      have w3 : (2 * (k : Int) + 1).toNat = 2 * k + 1 := by omega
      have w4 : 0 ≤ 2 * (k : Int) + 1 := by omega
      have w5 : 2 * (k : Int) + 1 < m := by omega
      have w6 : 0 ≤ 2 * (k : Int) := by omega
      have w7 : 2 * (k : Int) < m := by omega
      have w8 : (2 * (k : Int)).toNat = 2 * k := by omega
      gi_wp2
      refine wide_still_tail 18 (by kernel_rfl) (by kernel_rfl) ?_
      simp only [List.take_succ_cons, List.take_zero, List.drop_succ_cons, List.drop_zero]
      repeat still_step
      refine wpStill_nil ?_
      clear w1 w2 w3 w8
      gi_wp2
      refine ⟨fun hd => by simp [Fence.wide] at hd, hR.mono ?_⟩
      rintro e W3 (⟨rfl, hJ3, hk3⟩ | ⟨rfl, hJx3⟩)
      · gi_wp2
        go_roundw
        case rel => exact ⟨k + 1, by omega, by go_num, by rw [pairsTo_succ, HX.out]; exact hJ3, hnx.trans ((K2.drew _).trans hk3)⟩
        case measure => simp [intOf]; omega
      · gi_wp2
        refine bodyPost_ret (results_none rfl _ _ _) rfl ?_
        exact ⟨⟨_, rfl⟩, .inr ⟨_, ⟨k + 1, by have := HM.out; omega, by rw [pairsTo_succ, HX.out]⟩, hJx3⟩⟩
    · have hke : k = es.length / 2 := by have := HM.out; omega
      have HK := Lib.hid hke; clear hke
      gi_wp2
      go_end0
      exact ⟨⟨_, rfl⟩, .inl ⟨_, by unfold pairs; rw [← HK.out], hJs⟩⟩

theorem rows1_nil (n : Nat) (l Bs : Nat) (cap : Nat) (J : List Pr → World → Prop) (W : World) (hB1 : W.cell? ⟨Bs, 1, none⟩ = some (.slice none 0 cap)) (h0 : J [] W) :
    CallsIn Fence.wide n Tryz.prog 89 #[.func (.yield l) #[] #[], .pointer (some ⟨Bs, 0, none⟩)] W fun e W' => (∃ v, e = .returned v) ∧ J [] W' := by
  refine callsIn_of_wp Tryz.func89 rfl trivial ?_ rfl
  simp only [Tryz.ntmps89, List.size_toArray, List.length_cons, List.length_nil, Nat.reduceAdd, Nat.reduceSub, Array.replicate_succ, Array.replicate_zero, List.push_toArray, List.append_toArray, List.nil_append, List.cons_append]
  gi_wp2
  gi_loopw [3] (fun i wr => i = .int .i64 0 ∧ J [] wr ∧ wr.cell? ⟨Bs, 1, none⟩ = some (.slice none 0 cap)) (fun _ _ => 0)
  case atStart => exact ⟨rfl, h0, hB1⟩
  case round =>
    obtain ⟨rfl, hJs, hc⟩ := hrel
    gi_wp2
    go_end0
    exact ⟨⟨_, rfl⟩, hJs⟩

/-- the row of a set, its block below a bound -/
def RowIn (b : Nat) (w : World) (p : Option Addr) (es : List Nat) : Prop := (p = none ∧ es = []) ∨ ∃ off, p = some ⟨b, off, none⟩ ∧ ∀ k, k < es.length → w.cell? ⟨b, off + k, none⟩ = some (.int .i64 ((es.getD k 0 : Nat) : Int))
theorem rows_stops (n : Nat) (Bs b L m cap : Nat) (p : Option Addr) (es : List Nat) (g : Good L es) (hm : m = es.length) (w : World) (hBs : Bs < w.heap.size) (hb : b < w.heap.size) (hB1 : w.cell? ⟨Bs, 1, none⟩ = some (.slice p m cap)) (hrow : RowIn b w p es) :
    SeqStopsK Fence.wide n Tryz.prog 89 #[.pointer (some ⟨Bs, 0, none⟩)] encPr (K2 Bs b) (fun ys => ys = pairs es) (fun pre => ∃ k, k ≤ es.length / 2 ∧ pre = pairsTo es k) (es.length / 2) w := fun l J Jx W hW hJ hJx hY h0 => by
  have hB1' := (hW.cell (p := ⟨Bs, 1, none⟩) hBs).trans hB1
  rcases hrow with ⟨rfl, rfl⟩ | ⟨off, rfl, hc⟩
  · obtain rfl : m = 0 := hm
    exact (rows1_nil n l Bs cap J W hB1' h0).mono fun e W' ⟨he, hj⟩ => ⟨he, .inl ⟨[], rfl, hj⟩⟩
  · exact rows1_in n l Bs b off L m cap es g hm J Jx (fun pre X hx => hJ pre X X.drew none hx ⟨rfl, rfl, rfl, Nat.le_refl _, fun _ _ _ => rfl⟩ (fun r e => by cases e)) hY W hB1' (fun j hj => (hW.cell (p := ⟨b, off + j, none⟩) hb).trans (hc j hj)) h0

theorem rows_fn (L : Nat) (p : Option Addr) (m cap : Nat) (w : World) :
    Calls Tryz.prog 77 #[.agg #[.int .i64 L, .slice p m cap]] w fun e w' => e = .returned (.func (.func 89) #[] #[.pointer (some ⟨w.heap.size, 0, none⟩)]) ∧ w' = w.alloc (.cells #[.int .i64 L, .slice p m cap] 73) := by
  have hmf : ∀ (fn : Fn) (first cap : Array Value) (w : World), (Instr.makeFunc fn first cap).run Tryz.prog w = .ok (.func fn first cap) w := fun _ _ _ _ => rfl
  go_enter Tryz.func77, Tryz.ntmps77
  go_wp2
  go_ret
  exact ⟨rfl, rfl⟩
end Go.Proofs.YtmnhpmgffhpoeaaGreat.Bt
