/- StillIn, BitsIter. -/
import Derived.StillTail
import Derived.StillTailTactics
import Derived.OrdersIn
import Derived.TacticsIn
import Derived.ControlIn
import Derived.RangeFuncCalls
import Derived.WalkKit
import Derived.Test.YtbeldoiaecjkgaaGreatDoorMoD
import Derived.RangeFuncBox
import Derived.RangeFuncLeaves
import Derived.Shelf.Abstract
import Derived.OwnWalkIn
import Derived.TacticsInMore
import Derived.LoopNIn
import Derived.LoopIn
section
namespace Go.Proofs.YtbeldoiaecjkgaaGreatDoor
open Go

section
variable {P : Program} {ops : Array Oper} {w : World} {n : Nat} {Q : Exit → Act → World → Prop}

theorem wide_of_stOp {i : Nat} {K : Act → Prop} {K' : Act → World → Prop} {a : Act} (h : ∀ b, K b → K' b w) (hs : stOp P ops w i K a) : wpOpIn Fence.wide n P ops Q i K' a w := by
  unfold stOp at hs
  unfold wpOpIn
  cases ho : ops[i]? with
  | none => rw [ho] at hs; exact h _ hs
  | some o =>
    rw [ho] at hs
    simp only at hs ⊢
    by_cases hw : Region.wanted o (yielded ops a.tmps) = true
    · rw [if_pos hw] at hs ⊢
      refine ⟨fun _ _ => trivial, ?_⟩
      rw [show Fence.wide.round = none from rfl, Oper.semAt_none]
      unfold Oper.still at hs
      generalize (execOp a.eval o).run P w = r at hs
      match r, hs with
      | .ok (.value v) w', ⟨hx, hk⟩ => subst hx; exact h _ hk
      | .ok .skip w', ⟨hx, hk⟩ => subst hx; exact h _ hk
      | .ok (.enter f args) w', ⟨hx, v, hc, hk⟩ =>
        subst hx
        exact ⟨fun hd => by simp [Fence.wide] at hd, callsIn_wide.2 (hc.mono fun e w2 ⟨he, hw2⟩ => by subst he; subst hw2; exact h _ hk)⟩
    · rw [if_neg hw] at hs ⊢
      exact ⟨fun _ _ => trivial, h _ hs⟩

theorem wide_of_head {m g : Nat} {L : Array Bool → Act → Prop} (hL : ∀ listed b, L listed b → wpAnyIn Fence.wide n P .any ops Q g listed b w) :
    ∀ (f : Nat) (listed : Array Bool) (b : Act), wpAnyL P .any ops w m L f listed b → wpAnyIn Fence.wide n P .any ops Q (g + f) listed b w := by
  intro f
  induction f with
  | zero => intro listed b h; exact hL _ _ h
  | succ f ih =>
    intro listed b h
    refine ⟨fun he => absurd he h.1, fun i hi => ?_⟩
    exact wide_of_stOp (fun c hc => ih _ c hc) (h.2 i hi).2

theorem wide_of_seq : ∀ (t : List Oper) (k : Nat) (listed : Array Bool) (b : Act) (x : World), (∀ j, t[j]? = ops[k + j]?) → Region.seqB .any ops t.length k listed = true →
    wpListIn Fence.wide n P ops Q t b x → wpAnyIn Fence.wide n P .any ops Q t.length listed b x := by
  intro t
  induction t with
  | nil => intro k listed b x _ hB h; exact ⟨by simpa [Region.seqB] using hB, h⟩
  | cons o t ih =>
    intro k listed b x ht hB h
    have hk : ops[k]? = some o := by have := ht 0; simpa using this.symm
    simp only [List.length_cons, Region.seqB, Bool.and_eq_true, decide_eq_true_eq] at hB
    obtain ⟨hB1, hB2⟩ := hB
    refine ⟨fun he => (by rw [hB1] at he; cases he), fun i hi => ?_⟩
    have hik : i = k := by rw [hB1] at hi; simpa using hi
    subst hik
    have hop : wpOpIn Fence.wide n P ops Q i (wpListIn Fence.wide n P ops Q t) b x := by unfold wpOpIn; rw [hk]; exact h
    refine wpOpIn_mono (fun c y hc => ih (i + 1) _ c y (fun j => ?_) hB2 hc) hop
    have := ht (j + 1)
    rw [List.getElem?_cons_succ] at this
    rw [this]; congr 1; omega

/-- the head in the order of the text, then the tail -/
theorem wide_still_tail {id : Nat} {a : Act} {l : List Oper} (m : Nat) (hm : P.follows .mixedOrders = true) (hB : Region.lexTailB .any l.toArray m = true)
    (h : wpStill P l.toArray w.drew (fun b => wpListIn Fence.wide n P l.toArray Q (l.drop m) b w.drew) (l.take m) a) :
    (Code.region id l.toArray true).wpIn Fence.wide n P Q a w := by
  have hB' := hB
  simp only [Region.lexTailB, Bool.and_eq_true, decide_eq_true_eq] at hB'
  obtain ⟨⟨⟨⟨c1, c2⟩, c3⟩, c4⟩, c5⟩ := hB'
  have hlt : m < l.length := by simpa using c2
  have e1 : (l.take m).length = m := by simp; omega
  have e2 : (l.drop m).length = l.toArray.size - m := by simp
  have start : HeadInv .any l.toArray m (Array.replicate l.toArray.size false) :=
    ⟨by simp, fun j oj _ hl => (by rw [getD_replicate_false] at hl; cases hl), fun t _ ht => getD_in (by simpa using ht) (getD_replicate_false _ _)⟩
  have head := wpAnyL_lex (md := .any) (g := l.toArray.size - m) c1 c3 c4 c2 (l.take m) 0 _ a
    (fun j hj => by rw [e1] at hj; simp [hj]) (by simpa using e1) start (by rw [e1]; exact c5) h
  rw [e1] at head
  refine wpIn_region_any hm ?_
  have all := wide_of_head (n := n) (Q := Q) (g := l.toArray.size - m) (fun listed b hb => by
    have := wide_of_seq (n := n) (Q := Q) (l.drop m) m listed b { w with drawn := w.drawn + 1 } (fun j => by simp [List.getElem?_drop]) (by rw [e2]; exact hb.1) hb.2
    rwa [e2] at this) m _ a head
  rwa [show l.toArray.size - m + m = l.toArray.size from by omega] at all
/-! the same inside a round of a loop over an iterator -/
def noDefer (ops : Array Oper) : Bool := ops.toList.all fun o => match o.op with | .defer _ => false | _ => true
theorem noDefer_at {ops : Array Oper} (h : noDefer ops = true) {i : Nat} {o : Oper} (ho : ops[i]? = some o) : ∀ c, o.op ≠ .defer c := by
  intro c hc
  have hm : o ∈ ops.toList := by
    obtain ⟨h1, h2⟩ := Array.getElem?_eq_some_iff.1 ho
    rw [← h2]; simp
  have := List.all_eq_true.1 h o hm
  rw [hc] at this
  cases this
theorem round_of_stOp {l i : Nat} (hnd : noDefer ops = true) {K : Act → Prop} {K' : Act → World → Prop} {a : Act} (h : ∀ b, K b → K' b w) (hs : stOp P ops w i K a) : wpOpIn (Fence.wide.inRound l) n P ops Q i K' a w := by
  unfold stOp at hs
  unfold wpOpIn
  cases ho : ops[i]? with
  | none => rw [ho] at hs; exact h _ hs
  | some o =>
    rw [ho] at hs
    simp only at hs ⊢
    by_cases hw : Region.wanted o (yielded ops a.tmps) = true
    · rw [if_pos hw] at hs ⊢
      refine ⟨fun _ _ => trivial, ?_⟩
      rw [show (Fence.wide.inRound l).round = some l from rfl, Oper.semAt_some _ _ _ (noDefer_at hnd ho)]
      unfold Oper.still at hs
      generalize (execOp a.eval o).run P w = r at hs
      match r, hs with
      | .ok (.value v) w', ⟨hx, hk⟩ => subst hx; exact h _ hk
      | .ok .skip w', ⟨hx, hk⟩ => subst hx; exact h _ hk
      | .ok (.enter f args) w', ⟨hx, v, hc, hk⟩ =>
        subst hx
        exact ⟨fun hd => by simp [Fence.inRound, Fence.wide] at hd, CallsIn.inRound l (callsIn_wide.2 (hc.mono fun e w2 ⟨he, hw2⟩ => by subst he; subst hw2; exact h _ hk))⟩
    · rw [if_neg hw] at hs ⊢
      exact ⟨fun _ _ => trivial, h _ hs⟩
theorem round_of_head {l m g : Nat} (hnd : noDefer ops = true) {L : Array Bool → Act → Prop} (hL : ∀ listed b, L listed b → wpAnyIn (Fence.wide.inRound l) n P .any ops Q g listed b w) :
    ∀ (f : Nat) (listed : Array Bool) (b : Act), wpAnyL P .any ops w m L f listed b → wpAnyIn (Fence.wide.inRound l) n P .any ops Q (g + f) listed b w := by
  intro f
  induction f with
  | zero => intro listed b h; exact hL _ _ h
  | succ f ih =>
    intro listed b h
    exact ⟨fun he => absurd he h.1, fun i hi => round_of_stOp hnd (fun c hc => ih _ c hc) (h.2 i hi).2⟩
theorem round_of_seq {l : Nat} : ∀ (t : List Oper) (k : Nat) (listed : Array Bool) (b : Act) (x : World), (∀ j, t[j]? = ops[k + j]?) → Region.seqB .any ops t.length k listed = true →
    wpListIn (Fence.wide.inRound l) n P ops Q t b x → wpAnyIn (Fence.wide.inRound l) n P .any ops Q t.length listed b x := by
  intro t
  induction t with
  | nil => intro k listed b x _ hB h; exact ⟨by simpa [Region.seqB] using hB, h⟩
  | cons o t ih =>
    intro k listed b x ht hB h
    have hk : ops[k]? = some o := by have := ht 0; simpa using this.symm
    simp only [List.length_cons, Region.seqB, Bool.and_eq_true, decide_eq_true_eq] at hB
    obtain ⟨hB1, hB2⟩ := hB
    refine ⟨fun he => (by rw [hB1] at he; cases he), fun i hi => ?_⟩
    have hik : i = k := by rw [hB1] at hi; simpa using hi
    subst hik
    have hop : wpOpIn (Fence.wide.inRound l) n P ops Q i (wpListIn (Fence.wide.inRound l) n P ops Q t) b x := by unfold wpOpIn; rw [hk]; exact h
    refine wpOpIn_mono (fun c y hc => ih (i + 1) _ c y (fun j => ?_) hB2 hc) hop
    have := ht (j + 1)
    rw [List.getElem?_cons_succ] at this
    rw [this]; congr 1; omega
theorem round_still_tail {id r : Nat} {a : Act} {l : List Oper} (m : Nat) (hm : P.follows .mixedOrders = true) (hB : Region.lexTailB .any l.toArray m = true) (hnd : noDefer l.toArray = true)
    (h : wpStill P l.toArray w.drew (fun b => wpListIn (Fence.wide.inRound r) n P l.toArray Q (l.drop m) b w.drew) (l.take m) a) :
    (Code.region id l.toArray true).wpIn (Fence.wide.inRound r) n P Q a w := by
  have hB' := hB
  simp only [Region.lexTailB, Bool.and_eq_true, decide_eq_true_eq] at hB'
  obtain ⟨⟨⟨⟨c1, c2⟩, c3⟩, c4⟩, c5⟩ := hB'
  have hlt : m < l.length := by simpa using c2
  have e1 : (l.take m).length = m := by simp; omega
  have e2 : (l.drop m).length = l.toArray.size - m := by simp
  have start : HeadInv .any l.toArray m (Array.replicate l.toArray.size false) :=
    ⟨by simp, fun j oj _ hl => (by rw [getD_replicate_false] at hl; cases hl), fun t _ ht => getD_in (by simpa using ht) (getD_replicate_false _ _)⟩
  have head := wpAnyL_lex (md := .any) (g := l.toArray.size - m) c1 c3 c4 c2 (l.take m) 0 _ a
    (fun j hj => by rw [e1] at hj; simp [hj]) (by simpa using e1) start (by rw [e1]; exact c5) h
  rw [e1] at head
  refine wpIn_region_any hm ?_
  have all := round_of_head (n := n) (Q := Q) (l := r) (g := l.toArray.size - m) hnd (fun listed b hb => by
    have := round_of_seq (n := n) (Q := Q) (l := r) (l.drop m) m listed b { w with drawn := w.drawn + 1 } (fun j => by simp [List.getElem?_drop]) (by rw [e2]; exact hb.1) hb.2
    rwa [e2] at this) m _ a head
  rwa [show l.toArray.size - m + m = l.toArray.size from by omega] at all
end
end Go.Proofs.YtbeldoiaecjkgaaGreatDoor
end
section
namespace Go.Proofs.YtbeldoiaecjkgaaGreatDoor.Bt
open Go Go.RowKit Go.Shelf

attribute [local go_sem] Oper.semAt_some

/-- a row: its first number, and how many -/
abbrev Pr := { x : Nat × Nat // 0 < x.2 ∧ x.1 + x.2 ≤ 1048576 }
def mkPr (a c : Nat) : Pr := if h : a < c ∧ c ≤ 1048576 then ⟨(a, c - a), by omega, by simp; omega⟩ else ⟨(0, 1), by decide, by decide⟩
def encPr (x : Pr) : Array Value := #[.int .i64 (x.1.1 : Int), .int .i64 (x.1.2 : Int)]
def pairAt (es : List Nat) (j : Nat) : Pr := mkPr (es.getD (2 * j) 0) (es.getD (2 * j + 1) 0)
def pairsTo (es : List Nat) (k : Nat) : List Pr := (List.range k).map (pairAt es)
theorem pairsTo_succ (es : List Nat) (k : Nat) : pairsTo es (k + 1) = pairsTo es k ++ [pairAt es k] := by simp [pairsTo, List.range_succ]
theorem pairsTo_length (es : List Nat) (k : Nat) : (pairsTo es k).length = k := by simp [pairsTo]
def pairs (es : List Nat) : List Pr := pairsTo es (es.length / 2)

theorem pair_vals {L : Nat} {es : List Nat} (g : Good L es) {j : Nat} (hj : 2 * j + 1 < es.length) :
    (pairAt es j).1.1 = es.getD (2 * j) 0 ∧ ((pairAt es j).1.2 : Int) = (es.getD (2 * j + 1) 0 : Int) - (es.getD (2 * j) 0 : Int) := by
  have h1 := rising_get g.rising (show 2 * j < 2 * j + 1 by omega) hj
  have h2 : es.getD (2 * j + 1) 0 ≤ L := by
    apply g.le; rw [List.getD_eq_getElem?_getD, List.getElem?_eq_getElem hj]; exact List.getElem_mem _
  have h3 := g.small
  have h : es.getD (2 * j) 0 < es.getD (2 * j + 1) 0 ∧ es.getD (2 * j + 1) 0 ≤ 1048576 := by omega
  unfold pairAt mkPr
  rw [dif_pos h]
  refine ⟨rfl, ?_⟩
  show ((es.getD (2 * j + 1) 0 - es.getD (2 * j) 0 : Nat) : Int) = _
  omega

/-- two blocks lie as they lay -/
def K2 (x y : Nat) (W W' : World) : Prop := W'.heap[x]? = W.heap[x]? ∧ W'.heap[y]? = W.heap[y]?
theorem K2.refl {x y : Nat} (W : World) : K2 x y W W := ⟨rfl, rfl⟩
theorem K2.trans {x y : Nat} {A B C : World} (h : K2 x y A B) (k : K2 x y B C) : K2 x y A C := ⟨k.1.trans h.1, k.2.trans h.2⟩
theorem K2.drew {x y : Nat} (W : World) : K2 x y W W.drew := ⟨rfl, rfl⟩
theorem K2.one {x y : Nat} {A B : World} (h : K2 x y A B) (o : Nat) : B.cell? ⟨x, o, none⟩ = A.cell? ⟨x, o, none⟩ := World.cell?_of_block (w := A) (a := ⟨x, o, none⟩) h.1
theorem K2.two {x y : Nat} {A B : World} (h : K2 x y A B) (o : Nat) : B.cell? ⟨y, o, none⟩ = A.cell? ⟨y, o, none⟩ := World.cell?_of_block (w := A) (a := ⟨y, o, none⟩) h.2
theorem K2.put {x y : Nat} {w : World} (hx : x < w.heap.size) (hy : y < w.heap.size) (W : World) (l : Nat) (o o' : Obj) (hl : w.heap.size ≤ l) (_ : W.heap[l]? = some o) (_ : o.isCells = false) (_ : o.isWalk = false) : K2 x y W (W.putObj l o') :=
  ⟨World.putObj_heap_other (by omega), World.putObj_heap_other (by omega)⟩

set_option maxRecDepth 100000 in
set_option maxHeartbeats 2000000 in
theorem rows1_in (n : Nat) (l Bs b off L m cap : Nat) (es : List Nat) (g : Good L es) (hm : m = es.length) (J Jx : List Pr → World → Prop) (hdr : ∀ pre X, J pre X → J pre X.drew)
    (hY : ∀ pre x W, J pre W → pre.length < es.length / 2 → YieldAt Fence.wide (n - 1) Tryz.prog l (encPr x) W fun e W' =>
      (e = .returned (.bool true) ∧ J (pre ++ [x]) W' ∧ K2 Bs b W W') ∨ (e = .returned (.bool false) ∧ Jx (pre ++ [x]) W'))
    (W : World) (hB1 : W.cell? ⟨Bs, 1, none⟩ = some (.slice (some ⟨b, off, none⟩) m cap)) (hc : ∀ j, j < es.length → W.cell? ⟨b, off + j, none⟩ = some (.int .i64 ((es.getD j 0 : Nat) : Int))) (h0 : J [] W) :
    CallsIn Fence.wide n Tryz.prog 277 #[.func (.yield l) #[] #[], .pointer (some ⟨Bs, 0, none⟩)] W fun e W' => (∃ v, e = .returned v) ∧
      ((∃ ys, ys = pairs es ∧ J ys W') ∨ (∃ pre, (∃ k, k ≤ es.length / 2 ∧ pre = pairsTo es k) ∧ Jx pre W')) := by
  have hgl := good_len g
  have hev := g.even
  have HM := Lib.hid hm
  have hm2 : m ≤ 1048577 := by omega
  clear hm
  refine callsIn_of_wp Tryz.func277 rfl trivial ?_ rfl
  simp only [Tryz.ntmps277, List.size_toArray, List.length_cons, List.length_nil, Nat.reduceAdd, Nat.reduceSub, Array.replicate_succ, Array.replicate_zero, List.push_toArray, List.append_toArray, List.nil_append, List.cons_append]
  gi_wp2
  gi_loopw [3] (fun i wr => ∃ k : Nat, 2 * k ≤ m ∧ i = .int .i64 (2 * k : Nat) ∧ J (pairsTo es k) wr ∧ K2 Bs b W wr)
    (fun i _ => m - (intOf i).toNat)
  case atStart => exact ⟨0, by omega, rfl, h0, K2.refl _⟩
  case round =>
    obtain ⟨k, hk, rfl, hJs, hnx⟩ := hrel
    have HC := Lib.hid hc; clear hc
    have hbx : wr.cell? ⟨Bs, 1, none⟩ = some (.slice (some ⟨b, off, none⟩) m cap) := (hnx.one 1).trans hB1
    by_cases hlt : 2 * k + 1 < m
    · have hlt' : 2 * k + 1 < es.length := by rw [← HM.out]; exact hlt
      obtain ⟨p1, p2⟩ := pair_vals g hlt'
      obtain ⟨x, hx⟩ : ∃ x, pairAt es k = x := ⟨_, rfl⟩
      rw [hx] at p1 p2
      obtain ⟨u, hu⟩ : ∃ u : Nat, es.getD (2 * k) 0 = u := ⟨_, rfl⟩
      obtain ⟨v, hv⟩ : ∃ v : Nat, es.getD (2 * k + 1) 0 = v := ⟨_, rfl⟩
      have hcu : wr.cell? ⟨b, off + 2 * k, none⟩ = some (.int .i64 (u : Int)) := by rw [hnx.two, HC.out _ (by omega), hu]
      have hcv : wr.cell? ⟨b, off + (2 * k + 1), none⟩ = some (.int .i64 (v : Int)) := by rw [hnx.two, HC.out _ (by omega), hv]
      rw [hu, hv] at p2; rw [hu] at p1
      obtain ⟨fn, tmps, assign, body, hy, hR⟩ := hY _ x wr.drew (hdr _ _ hJs) (by rw [pairsTo_length]; omega)
      have hxx := x.2
      simp only [encPr] at hy
      rw [p1, p2] at hy
      have hvb : v ≤ 1048576 ∧ u < v := by omega
      have HX := Lib.hid hx; have HU := Lib.hid hu; have HV := Lib.hid hv; have HP1 := Lib.hid p1; have HP2 := Lib.hid p2
      clear hx hu hv p1 p2
      have w1 : IntKind.i64.wrap (2 * (k : Int) + 1) = 2 * (k : Int) + 1 := IntWalk.i64_in _ (by omega)
      have w2 : IntKind.i64.wrap ((v : Int) - u) = (v : Int) - u := IntWalk.i64_in _ (by omega)
      have w3 : (2 * (k : Int) + 1).toNat = 2 * k + 1 := by omega
      have w4 : 0 ≤ 2 * (k : Int) + 1 := by omega
      have w5 : 2 * (k : Int) + 1 < m := by omega
      have w6 : 0 ≤ 2 * (k : Int) := by omega
      have w7 : 2 * (k : Int) < m := by omega
      have w8 : (2 * (k : Int)).toNat = 2 * k := by omega
      gi_wp2
      refine wide_still_tail 18 (by kernel_rfl) (by kernel_rfl) ?_
      simp only [List.take_succ_cons, List.take_zero, List.drop_succ_cons, List.drop_zero]
      repeat still_step
      refine wpStill_nil ?_
      clear w1 w2 w3 w8
      gi_wp2
      refine ⟨fun hd => by simp [Fence.wide] at hd, hR.mono ?_⟩
      rintro e W3 (⟨rfl, hJ3, hk3⟩ | ⟨rfl, hJx3⟩)
      · gi_wp2
        go_roundw
        case rel => exact ⟨k + 1, by omega, by go_num, by rw [pairsTo_succ, HX.out]; exact hJ3, hnx.trans ((K2.drew _).trans hk3)⟩
        case measure => simp [intOf]; omega
      · gi_wp2
        refine bodyPost_ret (results_none rfl _ _ _) rfl ?_
        exact ⟨⟨_, rfl⟩, .inr ⟨_, ⟨k + 1, by have := HM.out; omega, by rw [pairsTo_succ, HX.out]⟩, hJx3⟩⟩
    · have hke : k = es.length / 2 := by have := HM.out; omega
      have HK := Lib.hid hke; clear hke
      gi_wp2
      go_end0
      exact ⟨⟨_, rfl⟩, .inl ⟨_, by unfold pairs; rw [← HK.out], hJs⟩⟩

theorem rows1_nil (n : Nat) (l Bs : Nat) (cap : Nat) (J : List Pr → World → Prop) (W : World) (hB1 : W.cell? ⟨Bs, 1, none⟩ = some (.slice none 0 cap)) (h0 : J [] W) :
    CallsIn Fence.wide n Tryz.prog 277 #[.func (.yield l) #[] #[], .pointer (some ⟨Bs, 0, none⟩)] W fun e W' => (∃ v, e = .returned v) ∧ J [] W' := by
  refine callsIn_of_wp Tryz.func277 rfl trivial ?_ rfl
  simp only [Tryz.ntmps277, List.size_toArray, List.length_cons, List.length_nil, Nat.reduceAdd, Nat.reduceSub, Array.replicate_succ, Array.replicate_zero, List.push_toArray, List.append_toArray, List.nil_append, List.cons_append]
  gi_wp2
  gi_loopw [3] (fun i wr => i = .int .i64 0 ∧ J [] wr ∧ wr.cell? ⟨Bs, 1, none⟩ = some (.slice none 0 cap)) (fun _ _ => 0)
  case atStart => exact ⟨rfl, h0, hB1⟩
  case round =>
    obtain ⟨rfl, hJs, hc⟩ := hrel
    gi_wp2
    go_end0
    exact ⟨⟨_, rfl⟩, hJs⟩

/-- the row of a set, its block below a bound -/
def RowIn (b : Nat) (w : World) (p : Option Addr) (es : List Nat) : Prop := (p = none ∧ es = []) ∨ ∃ off, p = some ⟨b, off, none⟩ ∧ ∀ k, k < es.length → w.cell? ⟨b, off + k, none⟩ = some (.int .i64 ((es.getD k 0 : Nat) : Int))
theorem rows_stops (n : Nat) (Bs b L m cap : Nat) (p : Option Addr) (es : List Nat) (g : Good L es) (hm : m = es.length) (w : World) (hBs : Bs < w.heap.size) (hb : b < w.heap.size) (hB1 : w.cell? ⟨Bs, 1, none⟩ = some (.slice p m cap)) (hrow : RowIn b w p es) :
    SeqStopsK Fence.wide n Tryz.prog 277 #[.pointer (some ⟨Bs, 0, none⟩)] encPr (K2 Bs b) (fun ys => ys = pairs es) (fun pre => ∃ k, k ≤ es.length / 2 ∧ pre = pairsTo es k) (es.length / 2) w := fun l J Jx W hW hJ hJx hY h0 => by
  have hB1' := (hW.cell (p := ⟨Bs, 1, none⟩) hBs).trans hB1
  rcases hrow with ⟨rfl, rfl⟩ | ⟨off, rfl, hc⟩
  · obtain rfl : m = 0 := hm
    exact (rows1_nil n l Bs cap J W hB1' h0).mono fun e W' ⟨he, hj⟩ => ⟨he, .inl ⟨[], rfl, hj⟩⟩
  · exact rows1_in n l Bs b off L m cap es g hm J Jx (fun pre X hx => hJ pre X X.drew none hx ⟨rfl, rfl, rfl, Nat.le_refl _, fun _ _ _ => rfl⟩ (fun r e => by cases e)) hY W hB1' (fun j hj => (hW.cell (p := ⟨b, off + j, none⟩) hb).trans (hc j hj)) h0

theorem rows_fn (L : Nat) (p : Option Addr) (m cap : Nat) (w : World) :
    Calls Tryz.prog 240 #[.agg #[.int .i64 L, .slice p m cap]] w fun e w' => e = .returned (.func (.func 277) #[] #[.pointer (some ⟨w.heap.size, 0, none⟩)]) ∧ w' = w.alloc (.cells #[.int .i64 L, .slice p m cap] 85) := by
  have hmf : ∀ (fn : Fn) (first cap : Array Value) (w : World), (Instr.makeFunc fn first cap).run Tryz.prog w = .ok (.func fn first cap) w := fun _ _ _ _ => rfl
  go_enter Tryz.func240, Tryz.ntmps240
  go_wp2
  go_ret
  exact ⟨rfl, rfl⟩
end Go.Proofs.YtbeldoiaecjkgaaGreatDoor.Bt
end
